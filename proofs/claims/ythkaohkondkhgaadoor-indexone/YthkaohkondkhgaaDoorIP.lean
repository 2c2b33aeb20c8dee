/-
  What is put is parsed again.
-/
import Derived.Test.YthkaohkondkhgaaDoorI12
namespace Go.Proofs.YthkaohkondkhgaaDoor
open Go.RowKit

def seg (p : List Int) (t m : Nat) : List Int := (p.drop t).take m
theorem seg_at (a b c : List Int) (t m : Nat) (ht : a.length = t) (hm : b.length = m) : seg (a ++ b ++ c) t m = b := by
  subst ht; subst hm
  unfold seg
  rw [List.append_assoc, List.drop_left, List.take_left]
theorem pow28 (j : Nat) : (2 : Int) ^ (8 * j) = 256 ^ j := by
  rw [Int.pow_mul]
  rfl
theorem bigV_range : ∀ (l : List Int) (v : Int), AllB l → 0 ≤ v → v * 256 ^ l.length ≤ Nu.bigV v l ∧ Nu.bigV v l < (v + 1) * 256 ^ l.length
  | [], v, _, h => by
    show v * 256 ^ 0 ≤ v ∧ v < (v + 1) * 256 ^ 0
    omega
  | x :: l, v, hA, h => by
    have hx := hA x (by simp)
    have ih := bigV_range l (v * 256 + x) (fun y hy => hA y (by simp [hy])) (by omega)
    show _ ≤ Nu.bigV (v * 256 + x) l ∧ Nu.bigV (v * 256 + x) l < _
    rw [List.length_cons, Int.pow_succ]
    have hp : (0 : Int) < 256 ^ l.length := Int.pow_pos (by omega)
    have e1 : v * (256 ^ l.length * 256) ≤ (v * 256 + x) * 256 ^ l.length := by
      rw [show v * ((256 : Int) ^ l.length * 256) = v * 256 * 256 ^ l.length by rw [Int.mul_assoc, Int.mul_comm (256 ^ l.length)]]
      exact Int.mul_le_mul_of_nonneg_right (by omega) (by omega)
    have e2 : (v * 256 + x + 1) * 256 ^ l.length ≤ (v + 1) * (256 ^ l.length * 256) := by
      rw [show (v + 1) * ((256 : Int) ^ l.length * 256) = (v + 1) * 256 * 256 ^ l.length by rw [Int.mul_assoc, Int.mul_comm (256 ^ l.length)]]
      exact Int.mul_le_mul_of_nonneg_right (by omega) (by omega)
    omega
theorem bigF_bigV : ∀ (l : List Int) (v : Int), AllB l → 0 ≤ v → Nu.bigF l.length (Nu.bigV v l) = l
  | [], _, _, _ => rfl
  | x :: l, v, hA, hv => by
    have hx := hA x (by simp)
    have hA' : AllB l := fun y hy => hA y (by simp [hy])
    have ih := bigF_bigV l (v * 256 + x) hA' (by omega)
    have hr := bigV_range l (v * 256 + x) hA' (by omega)
    show (Nu.bigV (v * 256 + x) l / 2 ^ (8 * l.length) % 256 :: Nu.bigF l.length (Nu.bigV (v * 256 + x) l)) = x :: l
    rw [ih, pow28]
    have hp : (0 : Int) < 256 ^ l.length := Int.pow_pos (by omega)
    have e : Nu.bigV (v * 256 + x) l / 256 ^ l.length = v * 256 + x := by
      apply Int.le_antisymm
      · exact Int.le_of_lt_add_one (Int.ediv_lt_of_lt_mul hp hr.2)
      · exact Int.le_ediv_of_mul_le hp hr.1
    rw [e]
    congr 1
    omega
theorem bigF_seg (p : List Int) (t n : Nat) (hA : AllB p) (h : t + n ≤ p.length) : Nu.bigF n (Nu.bigT p t n) = seg p t n := by
  have := bigF_bigV ((p.drop t).take n) 0 ((hA.drop t).take n) (by omega)
  have hl : ((p.drop t).take n).length = n := by simp; omega
  rw [hl] at this
  exact this
theorem bigV_bigF : ∀ (n : Nat) (x v : Int), 0 ≤ x → x < 256 ^ n → Nu.bigV v (Nu.bigF n x) = v * 256 ^ n + x
  | 0, x, v, h0, h1 => by
    show v = v * 256 ^ 0 + x
    simp at h1 ⊢
    omega
  | n + 1, x, v, h0, h1 => by
    have hp : (0 : Int) < 256 ^ n := Int.pow_pos (by omega)
    show Nu.bigV (v * 256 + x / 2 ^ (8 * n) % 256) (Nu.bigF n x) = _
    rw [pow28]
    have hq : x / 256 ^ n < 256 := Int.ediv_lt_of_lt_mul hp (by rw [Int.pow_succ] at h1; rw [Int.mul_comm]; exact h1)
    have hq0 : 0 ≤ x / 256 ^ n := Int.ediv_nonneg h0 (by omega)
    have hmod : Nu.bigF n x = Nu.bigF n (x % 256 ^ n) := bigF_mod n n x (Nat.le_refl _)
    rw [hmod, bigV_bigF n (x % 256 ^ n) _ (Int.emod_nonneg _ (by omega)) (Int.emod_lt_of_pos _ hp), Int.emod_eq_of_lt hq0 hq, Int.pow_succ, Int.add_mul, Int.add_assoc]
    have := Int.mul_ediv_add_emod x (256 ^ n)
    rw [Int.mul_comm (256 ^ n)] at this
    rw [this, Int.mul_assoc, Int.mul_comm 256 (256 ^ n)]
where
  bigF_mod : ∀ (j n : Nat) (x : Int), j ≤ n → Nu.bigF j x = Nu.bigF j (x % 256 ^ n)
  | 0, _, _, _ => rfl
  | j + 1, n, x, h => by
    show (x / 2 ^ (8 * j) % 256 :: Nu.bigF j x) = (x % 256 ^ n / 2 ^ (8 * j) % 256 :: Nu.bigF j (x % 256 ^ n))
    rw [bigF_mod j n x (by omega), pow28]
    congr 1
    obtain ⟨d, rfl⟩ : ∃ d, n = j + 1 + d := ⟨n - (j + 1), by omega⟩
    have hp : (0 : Int) < 256 ^ j := Int.pow_pos (by omega)
    have hd : (256 : Int) ^ (j + 1 + d) = 256 ^ j * (256 * 256 ^ d) := by rw [Int.pow_add, Int.pow_succ, Int.mul_assoc]
    rw [hd]
    have h1 : x % (256 ^ j * (256 * 256 ^ d)) = x - 256 ^ j * (256 * 256 ^ d) * (x / (256 ^ j * (256 * 256 ^ d))) := Int.emod_def _ _
    rw [h1]
    generalize x / (256 ^ j * (256 * 256 ^ d)) = q
    rw [show x - 256 ^ j * (256 * 256 ^ d) * q = x + 256 ^ j * (256 * (-(256 ^ d * q))) by
      rw [Int.mul_assoc, Int.mul_assoc, Int.mul_neg, Int.mul_neg]; omega]
    rw [Int.add_mul_ediv_left _ _ (by omega)]
    generalize -(256 ^ d * q) = z
    omega
theorem bigT_bigF (a c : List Int) (n t : Nat) (x : Int) (ht : a.length = t) (h0 : 0 ≤ x) (h1 : x < 256 ^ n) : Nu.bigT (a ++ Nu.bigF n x ++ c) t n = x := by
  unfold Nu.bigT
  have := seg_at a (Nu.bigF n x) c t n ht (Nu.bigF_length n x)
  unfold seg at this
  rw [this, bigV_bigF n x 0 h0 h1]
  omega

theorem str_pt (s : ByteArray) : strOfNums (ptB s) = s := by
  have h : (strOfNums (ptB s)).data.toList = s.data.toList := by
    rw [strOfNums_data]
    unfold ptB
    rw [List.map_map]
    conv => rhs; rw [← List.map_id s.data.toList]
    apply List.map_congr_left
    intro x _
    simp
  have h2 := Array.toList_inj.1 h
  cases hs : strOfNums (ptB s)
  cases s
  simp only [hs] at h2
  subst h2
  rfl
theorem slz_80 (n : Nat) : 80 ≤ slz n := by unfold slz; omega
/-- The parts of a slot's bytes, with what stands behind them. -/
theorem sb_rest (e : SlC) (R : List Int) : sbL e ++ R = rz 8 ++ (Nu.bigF 4 e.tm ++ (rz 12 ++ (Nu.bigF 4 e.md ++ (rz 8 ++ (Nu.bigF 4 e.sz ++ (e.ids ++ (Nu.bigF 2 (4096 * e.st + e.pt.size) ++ (ptB e.pt ++ (rz (slz e.pt.size - 74 - e.pt.size) ++ R))))))))) := by
  unfold sbL
  simp only [List.append_assoc]
theorem fs_sb {e : SlC} (h : FitZ e) (R : List Int) : fsF (sbL e ++ R) = e ∧ stepF (sbL e ++ R) = (sbL e).length := by
  obtain ⟨he, s0, s1, z0, z1, t0, t1, m0, m1, hp⟩ := h
  have r8 : (rz 8).length = 8 := List.length_replicate
  have r12 : (rz 12).length = 12 := List.length_replicate
  have b1 : (Nu.bigF 4 e.tm).length = 4 := Nu.bigF_length _ _
  have b2 : (Nu.bigF 4 e.md).length = 4 := Nu.bigF_length _ _
  have b3 : (Nu.bigF 4 e.sz).length = 4 := Nu.bigF_length _ _
  have b4 : (Nu.bigF 2 (4096 * e.st + e.pt.size)).length = 2 := Nu.bigF_length _ _
  have hi := he.1
  have hpl := ptB_length e.pt
  have hsl := sb_len e hi
  have hge := slz_ge e.pt.size
  have hX := sb_rest e R
  have hXl : (sbL e ++ R).length = slz e.pt.size + R.length := by rw [List.length_append, hsl]
  generalize sbL e ++ R = X at *
  have g1 : Nu.bigT X 8 4 = e.tm := by
    have := bigT_bigF (rz 8) (rz 12 ++ (Nu.bigF 4 e.md ++ (rz 8 ++ (Nu.bigF 4 e.sz ++ (e.ids ++ (Nu.bigF 2 (4096 * e.st + e.pt.size) ++ (ptB e.pt ++ (rz (slz e.pt.size - 74 - e.pt.size) ++ R)))))))) 4 8 e.tm r8 t0 (by omega)
    rw [hX]
    simpa only [List.append_assoc] using this
  have g2 : Nu.bigT X 24 4 = e.md := by
    have := bigT_bigF (rz 8 ++ Nu.bigF 4 e.tm ++ rz 12) (rz 8 ++ (Nu.bigF 4 e.sz ++ (e.ids ++ (Nu.bigF 2 (4096 * e.st + e.pt.size) ++ (ptB e.pt ++ (rz (slz e.pt.size - 74 - e.pt.size) ++ R)))))) 4 24 e.md (by simp only [List.length_append]; omega) m0 (by omega)
    rw [hX]
    simpa only [List.append_assoc] using this
  have g3 : Nu.bigT X 36 4 = e.sz := by
    have := bigT_bigF (rz 8 ++ Nu.bigF 4 e.tm ++ rz 12 ++ Nu.bigF 4 e.md ++ rz 8) (e.ids ++ (Nu.bigF 2 (4096 * e.st + e.pt.size) ++ (ptB e.pt ++ (rz (slz e.pt.size - 74 - e.pt.size) ++ R)))) 4 36 e.sz (by simp only [List.length_append]; omega) z0 (by omega)
    rw [hX]
    simpa only [List.append_assoc] using this
  have g4 : Nu.bigT X 72 2 = 4096 * e.st + e.pt.size := by
    have := bigT_bigF (rz 8 ++ Nu.bigF 4 e.tm ++ rz 12 ++ Nu.bigF 4 e.md ++ rz 8 ++ Nu.bigF 4 e.sz ++ e.ids) (ptB e.pt ++ (rz (slz e.pt.size - 74 - e.pt.size) ++ R)) 2 72 (4096 * e.st + e.pt.size) (by simp only [List.length_append]; omega) (by omega) (by omega)
    rw [hX]
    simpa only [List.append_assoc] using this
  have gE : endF X = 74 + e.pt.size := by
    unfold endF
    rw [g4, hXl]
    omega
  have gI : (X.take 72).drop 40 = e.ids := by
    have : X = (rz 8 ++ Nu.bigF 4 e.tm ++ rz 12 ++ Nu.bigF 4 e.md ++ rz 8 ++ Nu.bigF 4 e.sz) ++ e.ids ++ (Nu.bigF 2 (4096 * e.st + e.pt.size) ++ (ptB e.pt ++ (rz (slz e.pt.size - 74 - e.pt.size) ++ R))) := by
      rw [hX]; simp only [List.append_assoc]
    have hs := seg_at (rz 8 ++ Nu.bigF 4 e.tm ++ rz 12 ++ Nu.bigF 4 e.md ++ rz 8 ++ Nu.bigF 4 e.sz) e.ids (Nu.bigF 2 (4096 * e.st + e.pt.size) ++ (ptB e.pt ++ (rz (slz e.pt.size - 74 - e.pt.size) ++ R))) 40 32 (by simp only [List.length_append]; omega) hi
    rw [← this] at hs
    unfold seg at hs
    rw [List.drop_take]
    exact hs
  have gP : (X.take (endF X)).drop 74 = ptB e.pt := by
    have : X = (rz 8 ++ Nu.bigF 4 e.tm ++ rz 12 ++ Nu.bigF 4 e.md ++ rz 8 ++ Nu.bigF 4 e.sz ++ e.ids ++ Nu.bigF 2 (4096 * e.st + e.pt.size)) ++ ptB e.pt ++ (rz (slz e.pt.size - 74 - e.pt.size) ++ R) := by
      rw [hX]; simp only [List.append_assoc]
    have hs := seg_at (rz 8 ++ Nu.bigF 4 e.tm ++ rz 12 ++ Nu.bigF 4 e.md ++ rz 8 ++ Nu.bigF 4 e.sz ++ e.ids ++ Nu.bigF 2 (4096 * e.st + e.pt.size)) (ptB e.pt) (rz (slz e.pt.size - 74 - e.pt.size) ++ R) 74 e.pt.size (by simp only [List.length_append]; omega) hpl
    rw [← this] at hs
    unfold seg at hs
    rw [List.drop_take, gE, show 74 + e.pt.size - 74 = e.pt.size by omega]
    exact hs
  have hf : fsF X = e := by
    unfold fsF
    rw [g1, g2, g3, g4, gI, gP, str_pt, show (4096 * e.st + (e.pt.size : Int)) / 4096 = e.st by omega]
  refine ⟨hf, ?_⟩
  unfold stepF
  rw [hf, hXl, hsl]
  omega
theorem slots_flat : ∀ {es : List SlC}, (∀ e ∈ es, FitZ e) → slotsF (es.flatMap sbL) = es
  | [], _ => slotsF_end (by simp)
  | e :: es, h => by
    have h1 := h e List.mem_cons_self
    obtain ⟨f1, f2⟩ := fs_sb h1 (es.flatMap sbL)
    have hl : 80 ≤ (sbL e ++ es.flatMap sbL).length := by
      rw [List.length_append, sb_len e h1.1.1]
      have := slz_80 e.pt.size
      omega
    rw [List.flatMap_cons, slotsF_step hl, f1, f2, List.drop_left, slots_flat fun x hx => h x (List.mem_cons_of_mem _ hx)]
theorem bod_len {es : List SlC} (hok : ∀ e ∈ es, e.ok) (h : chkE es = 0) : 12 ≤ (bodL es).length ∧ (bodL es).length ≤ 1200000 := by
  have h1 := flat_len (fit_of hok h)
  have h2 := (chk_ok.1 h).2.1
  unfold bodL
  rw [List.length_append, List.length_append, Nu.bigF_length]
  show 12 ≤ 8 + 4 + _ ∧ 8 + 4 + _ ≤ _
  omega
theorem put_len {es : List SlC} (h : chkE es = 0) : (putF es).length = (bodL es).length + 32 := by
  unfold putF
  rw [if_pos h, List.length_append, sumB_len]
/-- What is put is parsed again. -/
theorem prs_put {es : List SlC} (hok : ∀ e ∈ es, e.ok) (h : chkE es = 0) : prsE (putF es) = 0 ∧ prsL (putF es) = es := by
  have hb := bod_len hok h
  have hl := put_len h
  have hS : prsS (putF es) = es := by
    unfold prsS
    rw [hl, show (bodL es).length + 32 - 32 = (bodL es).length by omega]
    unfold putF
    rw [if_pos h, List.take_left]
    unfold bodL
    rw [List.drop_append_of_le_length (by rw [List.length_append, Nu.bigF_length]; show 12 ≤ 8 + 4; omega), List.drop_of_length_le (by rw [List.length_append, Nu.bigF_length]; show 8 + 4 ≤ 12; omega), List.nil_append]
    exact slots_flat (fit_of hok h)
  have hE : prsE (putF es) = 0 := by
    unfold prsE
    rw [hS, if_neg (by omega), if_neg (by omega), if_neg (by simp [h]), if_neg (by simp), if_neg (by simp), if_neg (by simp)]
  exact ⟨hE, by unfold prsL; rw [if_pos hE, hS]⟩
/-- What is parsed is put as it was. -/
theorem put_prs {xs : List Int} (h : prsE xs = 0) : chkE (prsL xs) = 0 ∧ putF (prsL xs) = xs := by
  have hL : prsL xs = prsS xs := by unfold prsL; rw [if_pos h]
  rw [hL]
  unfold prsE at h
  split at h
  · omega
  · split at h
    · omega
    · split at h
      · omega
      · rename_i h3
        split at h
        · omega
        · split at h
          · omega
          · rename_i h5
            split at h
            · omega
            · rename_i h6
              refine ⟨Decidable.not_not.1 h3, ?_⟩
              rw [← List.take_append_drop (xs.length - 32) (putF (prsS xs)), Decidable.not_not.1 h5, Decidable.not_not.1 h6, List.take_append_drop]
end Go.Proofs.YthkaohkondkhgaaDoor
