/-
  Plain mathematics of an index of a pack: rows, the fan, the bytes.
-/
import Derived.Test.YtgoegmaepafopaaDoorNuW15
import Derived.Test.YtgoegmaepafopaaDoorNuW6
import Derived.Test.YtgoegmaepafopaaDoorShCM
import Derived.Test.YtgoegmaepafopaaDoorK
namespace Go.Proofs.YtgoegmaepafopaaDoor
open Go.RowKit

structure RowC where
  ids : List Int
  crc : Int
  pl : Int
instance : Inhabited RowC := ⟨⟨List.replicate 32 0, 0, 0⟩⟩
def RowC.l (r : RowC) : List Value := cellsK .u8 r.ids ++ [.int .u32 r.crc, .int .u64 r.pl]
def RowC.ok (r : RowC) : Prop := r.ids.length = 32 ∧ AllB r.ids ∧ 0 ≤ r.crc ∧ r.crc < 4294967296 ∧ 0 ≤ r.pl ∧ r.pl < 18446744073709551616
theorem RowC.len {r : RowC} (h : r.ok) : r.l.length = 34 := by
  unfold RowC.l
  simp [cellsK, h.1]
theorem RowC.ones (r : RowC) : ∀ u ∈ r.l, u.oneCell' = true := by
  intro u hu
  unfold RowC.l at hu
  rcases List.mem_append.1 hu with hu | hu
  · exact cellsK_one .u8 _ u hu
  · simp at hu
    rcases hu with rfl | rfl <;> rfl
theorem RowC.cId {r : RowC} (h : r.ok) {j : Nat} (hj : j < 32) : r.l[j]? = some (.int .u8 (r.ids.getD j 0)) := by
  unfold RowC.l
  rw [List.getElem?_append_left (by rw [cellsK_length, h.1]; exact hj)]
  have hl : j < r.ids.length := by rw [h.1]; exact hj
  simp [cellsK, List.getD, List.getElem?_eq_getElem hl]
theorem RowC.cCrc {r : RowC} (h : r.ok) : r.l[32]? = some (.int .u32 r.crc) := by
  unfold RowC.l
  rw [List.getElem?_append_right (by rw [cellsK_length, h.1]; omega), cellsK_length, h.1]
  rfl
theorem RowC.cPl {r : RowC} (h : r.ok) : r.l[33]? = some (.int .u64 r.pl) := by
  unfold RowC.l
  rw [List.getElem?_append_right (by rw [cellsK_length, h.1]; omega), cellsK_length, h.1]
  rfl
theorem RowC.take {r : RowC} (h : r.ok) : r.l.take 32 = cellsK .u8 r.ids := by
  unfold RowC.l
  rw [List.take_append_of_le_length (by rw [cellsK_length, h.1]; omega), List.take_of_length_le (by rw [cellsK_length, h.1]; omega)]

/-- Lists one behind the other. -/
def accL (f : Nat → List Int) (k : Nat) : List Int := (List.range k).flatMap f
theorem accL_zero (f : Nat → List Int) : accL f 0 = [] := rfl
theorem accL_succ (f : Nat → List Int) (k : Nat) : accL f (k + 1) = accL f k ++ f k := by simp [accL, List.range_succ]
theorem accL_len (f : Nat → List Int) (m : Nat) : ∀ k, (∀ i, i < k → (f i).length = m) → (accL f k).length = m * k
  | 0, _ => rfl
  | k + 1, h => by rw [accL_succ, List.length_append, accL_len f m k (fun i hi => h i (by omega)), h k (by omega), Nat.mul_add, Nat.mul_one]
theorem accL_allB (f : Nat → List Int) : ∀ k, (∀ i, i < k → AllB (f i)) → AllB (accL f k)
  | 0, _ => AllIn.nil
  | k + 1, h => by rw [accL_succ]; exact (accL_allB f k (fun i hi => h i (by omega))).append (h k (by omega))
theorem accL_congr (f g : Nat → List Int) : ∀ k, (∀ i, i < k → f i = g i) → accL f k = accL g k
  | 0, _ => rfl
  | k + 1, h => by rw [accL_succ, accL_succ, accL_congr f g k (fun i hi => h i (by omega)), h k (by omega)]
/-- A stretch of p, piece by piece. -/
def seg (p : List Int) (t m : Nat) : List Int := (p.drop t).take m
theorem seg_len (p : List Int) (t m : Nat) (h : t + m ≤ p.length) : (seg p t m).length = m := by simp [seg]; omega
theorem seg_add (p : List Int) (t m n : Nat) : seg p t (m + n) = seg p t m ++ seg p (t + m) n := by
  unfold seg
  rw [List.take_add, List.drop_drop]
theorem accL_seg (p : List Int) (t m : Nat) (f : Nat → List Int) : ∀ k, (∀ i, i < k → f i = seg p (t + m * i) m) → accL f k = seg p t (m * k)
  | 0, _ => by simp [accL, seg]
  | k + 1, h => by rw [accL_succ, accL_seg p t m f k (fun i hi => h i (by omega)), h k (by omega), Nat.mul_add, Nat.mul_one, seg_add]
theorem seg_accL (p : List Int) (t m : Nat) (f : Nat → List Int) : ∀ k, t + m * k ≤ p.length → (∀ i, i < k → (f i).length = m) → accL f k = seg p t (m * k) → ∀ i, i < k → f i = seg p (t + m * i) m
  | 0, _, _, _, i, hi => by omega
  | k + 1, hp, hl, h, i, hi => by
    have e : m * (k + 1) = m * k + m := by rw [Nat.mul_add, Nat.mul_one]
    rw [accL_succ, e, seg_add] at h
    have hlen : (accL f k).length = (seg p t (m * k)).length := by rw [accL_len f m k (fun i hi => hl i (by omega)), seg_len p t (m * k) (by omega)]
    obtain ⟨h1, h2⟩ := List.append_inj h hlen
    rcases Nat.lt_or_ge i k with h' | h'
    · exact seg_accL p t m f k (by omega) (fun i hi => hl i (by omega)) h1 i h'
    · obtain rfl : i = k := by omega
      exact h2
theorem seg_append (a b : List Int) (m : Nat) (h : b.length = m) : seg (a ++ b) a.length m = b := by
  unfold seg
  rw [List.drop_left, List.take_of_length_le (by omega)]
theorem seg_at (a b c : List Int) (t m : Nat) (ht : a.length = t) (hm : b.length = m) : seg (a ++ b ++ c) t m = b := by
  subst ht; subst hm
  unfold seg
  rw [List.append_assoc, List.drop_left, List.take_left]
theorem seg_in (p : List Int) (t m s n : Nat) (h : s + n ≤ m) : seg (seg p t m) s n = seg p (t + s) n := by
  unfold seg
  rw [List.drop_take, List.drop_drop, List.take_take, Nat.min_eq_left (by omega)]

/-- A number and its bytes. -/
theorem bigV_append : ∀ (a b : List Int) (v : Int), Nu.bigV v (a ++ b) = Nu.bigV (Nu.bigV v a) b
  | [], _, _ => rfl
  | x :: a, b, v => by
    show Nu.bigV (v * 256 + x) (a ++ b) = _
    rw [bigV_append a b]
    rfl
theorem bigV_range : ∀ (l : List Int) (v : Int), AllB l → 0 ≤ v → v * 256 ^ l.length ≤ Nu.bigV v l ∧ Nu.bigV v l < (v + 1) * 256 ^ l.length
  | [], v, _, h => by
    show v * 256 ^ 0 ≤ v ∧ v < (v + 1) * 256 ^ 0
    omega
  | x :: l, v, hA, h => by
    have hx := hA x (by simp)
    have ih := bigV_range l (v * 256 + x) (fun y hy => hA y (by simp [hy])) (by omega)
    show _ ≤ Nu.bigV (v * 256 + x) l ∧ Nu.bigV (v * 256 + x) l < _
    rw [List.length_cons, Int.pow_succ]
    have hp : (0 : Int) < 256 ^ l.length := Int.pow_pos (by omega)
    have e1 : v * (256 ^ l.length * 256) ≤ (v * 256 + x) * 256 ^ l.length := by
      rw [show v * ((256 : Int) ^ l.length * 256) = v * 256 * 256 ^ l.length by rw [Int.mul_assoc, Int.mul_comm (256 ^ l.length)]]
      exact Int.mul_le_mul_of_nonneg_right (by omega) (by omega)
    have e2 : (v * 256 + x + 1) * 256 ^ l.length ≤ (v + 1) * (256 ^ l.length * 256) := by
      rw [show (v + 1) * ((256 : Int) ^ l.length * 256) = (v + 1) * 256 * 256 ^ l.length by rw [Int.mul_assoc, Int.mul_comm (256 ^ l.length)]]
      exact Int.mul_le_mul_of_nonneg_right (by omega) (by omega)
    omega
theorem bigT_range (p : List Int) (t n : Nat) (hA : AllB p) (h : t + n ≤ p.length) : 0 ≤ Nu.bigT p t n ∧ Nu.bigT p t n < 256 ^ n := by
  have := bigV_range ((p.drop t).take n) 0 ((hA.drop t).take n) (by omega)
  have hl : ((p.drop t).take n).length = n := by simp; omega
  rw [hl] at this
  unfold Nu.bigT
  omega
theorem pow28 (j : Nat) : (2 : Int) ^ (8 * j) = 256 ^ j := by
  rw [Int.pow_mul]
  rfl
/-- The bytes of what bytes say are these bytes. -/
theorem bigF_bigV : ∀ (l : List Int) (v : Int), AllB l → 0 ≤ v → Nu.bigF l.length (Nu.bigV v l) = l
  | [], _, _, _ => rfl
  | x :: l, v, hA, hv => by
    have hx := hA x (by simp)
    have hA' : AllB l := fun y hy => hA y (by simp [hy])
    have ih := bigF_bigV l (v * 256 + x) hA' (by omega)
    have hr := bigV_range l (v * 256 + x) hA' (by omega)
    show (Nu.bigV (v * 256 + x) l / 2 ^ (8 * l.length) % 256 :: Nu.bigF l.length (Nu.bigV (v * 256 + x) l)) = x :: l
    rw [ih, pow28]
    have hp : (0 : Int) < 256 ^ l.length := Int.pow_pos (by omega)
    have e : Nu.bigV (v * 256 + x) l / 256 ^ l.length = v * 256 + x := by
      apply Int.le_antisymm
      · exact Int.le_of_lt_add_one (Int.ediv_lt_of_lt_mul hp hr.2)
      · exact Int.le_ediv_of_mul_le hp hr.1
    rw [e]
    congr 1
    omega
theorem bigF_seg (p : List Int) (t n : Nat) (hA : AllB p) (h : t + n ≤ p.length) : Nu.bigF n (Nu.bigT p t n) = seg p t n := by
  have := bigF_bigV ((p.drop t).take n) 0 ((hA.drop t).take n) (by omega)
  have hl : ((p.drop t).take n).length = n := by simp; omega
  rw [hl] at this
  exact this
theorem bigV_bigF : ∀ (n : Nat) (x v : Int), 0 ≤ x → x < 256 ^ n → Nu.bigV v (Nu.bigF n x) = v * 256 ^ n + x
  | 0, x, v, h0, h1 => by
    show v = v * 256 ^ 0 + x
    simp at h1 ⊢
    omega
  | n + 1, x, v, h0, h1 => by
    have hp : (0 : Int) < 256 ^ n := Int.pow_pos (by omega)
    show Nu.bigV (v * 256 + x / 2 ^ (8 * n) % 256) (Nu.bigF n x) = _
    rw [pow28]
    have hq : x / 256 ^ n < 256 := Int.ediv_lt_of_lt_mul hp (by rw [Int.pow_succ] at h1; rw [Int.mul_comm]; exact h1)
    have hq0 : 0 ≤ x / 256 ^ n := Int.ediv_nonneg h0 (by omega)
    have hmod : Nu.bigF n x = Nu.bigF n (x % 256 ^ n) := bigF_mod n n x (Nat.le_refl _)
    rw [hmod, bigV_bigF n (x % 256 ^ n) _ (Int.emod_nonneg _ (by omega)) (Int.emod_lt_of_pos _ hp), Int.emod_eq_of_lt hq0 hq, Int.pow_succ, Int.add_mul, Int.add_assoc]
    have := Int.mul_ediv_add_emod x (256 ^ n)
    rw [Int.mul_comm (256 ^ n)] at this
    rw [this, Int.mul_assoc, Int.mul_comm 256 (256 ^ n)]
where
  bigF_mod : ∀ (j n : Nat) (x : Int), j ≤ n → Nu.bigF j x = Nu.bigF j (x % 256 ^ n)
  | 0, _, _, _ => rfl
  | j + 1, n, x, h => by
    show (x / 2 ^ (8 * j) % 256 :: Nu.bigF j x) = (x % 256 ^ n / 2 ^ (8 * j) % 256 :: Nu.bigF j (x % 256 ^ n))
    rw [bigF_mod j n x (by omega), pow28]
    congr 1
    obtain ⟨d, rfl⟩ : ∃ d, n = j + 1 + d := ⟨n - (j + 1), by omega⟩
    have hp : (0 : Int) < 256 ^ j := Int.pow_pos (by omega)
    have hd : (256 : Int) ^ (j + 1 + d) = 256 ^ j * (256 * 256 ^ d) := by rw [Int.pow_add, Int.pow_succ, Int.mul_assoc]
    rw [hd]
    have h1 : x % (256 ^ j * (256 * 256 ^ d)) = x - 256 ^ j * (256 * 256 ^ d) * (x / (256 ^ j * (256 * 256 ^ d))) := Int.emod_def _ _
    rw [h1]
    generalize x / (256 ^ j * (256 * 256 ^ d)) = q
    rw [show x - 256 ^ j * (256 * 256 ^ d) * q = x + 256 ^ j * (256 * (-(256 ^ d * q))) by
      rw [Int.mul_assoc, Int.mul_assoc, Int.mul_neg, Int.mul_neg]; omega]
    rw [Int.add_mul_ediv_left _ _ (by omega)]
    generalize -(256 ^ d * q) = z
    omega
theorem bigT_bigF (a c : List Int) (n t : Nat) (x : Int) (ht : a.length = t) (h0 : 0 ≤ x) (h1 : x < 256 ^ n) : Nu.bigT (a ++ Nu.bigF n x ++ c) t n = x := by
  unfold Nu.bigT
  have := seg_at a (Nu.bigF n x) c t n ht (Nu.bigF_length n x)
  unfold seg at this
  rw [this, bigV_bigF n x 0 h0 h1]
  omega
theorem bigF_inj {n : Nat} {x y : Int} (hx0 : 0 ≤ x) (hx : x < 256 ^ n) (hy0 : 0 ≤ y) (hy : y < 256 ^ n) (h : Nu.bigF n x = Nu.bigF n y) : x = y := by
  have h1 := bigV_bigF n x 0 hx0 hx
  have h2 := bigV_bigF n y 0 hy0 hy
  rw [h] at h1
  omega


def headB : List Int := [255, 116, 79, 99, 0, 0, 0, 2]
def rowI (rs : List RowC) (i : Nat) : RowC := rs.getD i default
/-- How many rows have a first byte of b; of at most b. -/
def cntE (rs : List RowC) (b : Nat) : Nat := rs.countP fun r => decide (r.ids.getD 0 0 = (b : Int))
def cntL (rs : List RowC) (b : Nat) : Nat := rs.countP fun r => decide (r.ids.getD 0 0 ≤ (b : Int))
def lng (bs : List Bool) (i : Nat) : Bool := bs.getD i false
def nl (bs : List Bool) (k : Nat) : Nat := (bs.take k).count true
def shortI (rs : List RowC) (bs : List Bool) (i : Nat) : List Int := Nu.bigF 4 (if lng bs i = true then 2147483648 + (nl bs i : Int) else (rowI rs i).pl)
def longI (rs : List RowC) (bs : List Bool) (i : Nat) : List Int := if lng bs i = true then Nu.bigF 8 (rowI rs i).pl else []
def fanB (rs : List RowC) (k : Nat) : List Int := accL (fun b => Nu.bigF 4 (cntL rs b : Int)) k
def idsB (rs : List RowC) (k : Nat) : List Int := accL (fun i => (rowI rs i).ids) k
def crcB (rs : List RowC) (k : Nat) : List Int := accL (fun i => Nu.bigF 4 (rowI rs i).crc) k
def bodyL (rs : List RowC) (bs : List Bool) (pk : List Int) : List Int :=
  headB ++ fanB rs 256 ++ idsB rs rs.length ++ crcB rs rs.length ++ accL (shortI rs bs) rs.length ++ accL (longI rs bs) rs.length ++ pk
def sumB (xs : List Int) : List Int := Sh.digF (Sh.sumS Sh.ksK xs).list
def buildL (rs : List RowC) (bs : List Bool) (pk : List Int) : List Int := bodyL rs bs pk ++ sumB (bodyL rs bs pk)
def lngs (rs : List RowC) : List Bool := rs.map fun r => decide (2147483648 ≤ r.pl)

theorem sumB_length (xs : List Int) : (sumB xs).length = 32 := Sh.digF_length _
theorem sumB_allB (xs : List Int) : AllB (sumB xs) := Sh.digF_allB _
theorem rowI_ok {rs : List RowC} (h : ∀ r ∈ rs, r.ok) {i : Nat} (hi : i < rs.length) : (rowI rs i).ok := by
  have : rowI rs i = rs[i] := by simp [rowI, List.getD, List.getElem?_eq_getElem hi]
  rw [this]
  exact h _ (List.getElem_mem hi)
theorem rowI_get {rs : List RowC} {i : Nat} (hi : i < rs.length) : rowI rs i = rs[i] := by simp [rowI, List.getD, List.getElem?_eq_getElem hi]
theorem lng_get {bs : List Bool} {i : Nat} (hi : i < bs.length) : lng bs i = bs[i] := by simp [lng, List.getD, List.getElem?_eq_getElem hi]
theorem nl_succ (bs : List Bool) (k : Nat) : nl bs (k + 1) = nl bs k + (if lng bs k = true then 1 else 0) := by
  unfold nl lng
  rcases Nat.lt_or_ge k bs.length with h | h
  · rw [List.take_add_one, List.getElem?_eq_getElem h, List.count_append]
    simp only [Option.toList_some, List.getD, List.getElem?_eq_getElem h, Option.getD_some]
    cases bs[k] <;> simp
  · rw [List.take_of_length_le h, List.take_of_length_le (by omega)]
    simp [List.getD, List.getElem?_eq_none h]
theorem nl_le (bs : List Bool) (k : Nat) : nl bs k ≤ k := by
  induction k with
  | zero => simp [nl]
  | succ k ih => rw [nl_succ]; split <;> omega
theorem nl_mono (bs : List Bool) {i k : Nat} (h : i ≤ k) : nl bs i ≤ nl bs k := by
  induction k with
  | zero =>
    obtain rfl : i = 0 := by omega
    exact Nat.le_refl _
  | succ k ih =>
    rcases Nat.lt_or_ge i (k + 1) with h' | h'
    · have := ih (by omega)
      rw [nl_succ]
      omega
    · obtain rfl : i = k + 1 := by omega
      exact Nat.le_refl _
theorem longs_len (rs : List RowC) (bs : List Bool) : ∀ k, (accL (longI rs bs) k).length = 8 * nl bs k
  | 0 => by simp [accL, nl]
  | k + 1 => by
    rw [accL_succ, List.length_append, longs_len rs bs k, nl_succ]
    unfold longI
    split
    · rw [Nu.bigF_length]; omega
    · simp
theorem cntL_le (rs : List RowC) (b : Nat) : cntL rs b ≤ rs.length := List.countP_le_length
theorem cntL_mono (rs : List RowC) {a b : Nat} (h : a ≤ b) : cntL rs a ≤ cntL rs b := by
  unfold cntL
  apply List.countP_mono_left
  intro r _ hr
  simp only [decide_eq_true_eq] at hr ⊢
  omega
theorem cntL_step (rs : List RowC) (b : Nat) : cntL rs (b + 1) = cntL rs b + cntE rs (b + 1) := by
  unfold cntL cntE
  induction rs with
  | nil => rfl
  | cons r rs ih =>
    simp only [List.countP_cons]
    by_cases h1 : r.ids.getD 0 0 ≤ (b : Int)
    · have h2 : r.ids.getD 0 0 ≤ ((b + 1 : Nat) : Int) := by omega
      have h3 : ¬ r.ids.getD 0 0 = ((b + 1 : Nat) : Int) := by omega
      rw [decide_eq_true h1, decide_eq_true h2, decide_eq_false h3]
      simp only [if_true]
      rw [ih]
      simp
      omega
    · by_cases h2 : r.ids.getD 0 0 ≤ ((b + 1 : Nat) : Int)
      · have h3 : r.ids.getD 0 0 = ((b + 1 : Nat) : Int) := by omega
        rw [decide_eq_false h1, decide_eq_true h2, decide_eq_true h3]
        simp only [if_true]
        rw [ih]
        simp
        omega
      · have h3 : ¬ r.ids.getD 0 0 = ((b + 1 : Nat) : Int) := by omega
        rw [decide_eq_false h1, decide_eq_false h2, decide_eq_false h3]
        rw [ih]
        simp
theorem cntL_zero {rs : List RowC} (h : ∀ r ∈ rs, r.ok) : cntL rs 0 = cntE rs 0 := by
  unfold cntL cntE
  apply List.countP_congr
  intro r hr
  have := (h r hr).2.1.getD (by omega) 0
  simp only [decide_eq_true_eq]
  constructor <;> intro _ <;> omega
theorem cntL_all {rs : List RowC} (h : ∀ r ∈ rs, r.ok) : cntL rs 255 = rs.length := by
  unfold cntL
  rw [List.countP_eq_length]
  intro r hr
  have := (h r hr).2.1.getD (by omega) 0
  simp only [decide_eq_true_eq]
  omega
theorem fanB_len (rs : List RowC) (k : Nat) : (fanB rs k).length = 4 * k := accL_len _ 4 k fun _ _ => Nu.bigF_length _ _
theorem idsB_len {rs : List RowC} (h : ∀ r ∈ rs, r.ok) {k : Nat} (hk : k ≤ rs.length) : (idsB rs k).length = 32 * k := accL_len _ 32 k fun i hi => (rowI_ok h (by omega)).1
theorem crcB_len (rs : List RowC) (k : Nat) : (crcB rs k).length = 4 * k := accL_len _ 4 k fun _ _ => Nu.bigF_length _ _
theorem shorts_len (rs : List RowC) (bs : List Bool) (k : Nat) : (accL (shortI rs bs) k).length = 4 * k := accL_len _ 4 k fun _ _ => Nu.bigF_length _ _
theorem bodyL_len {rs : List RowC} (h : ∀ r ∈ rs, r.ok) (bs : List Bool) (pk : List Int) : (bodyL rs bs pk).length = 1032 + 40 * rs.length + 8 * nl bs rs.length + pk.length := by
  unfold bodyL
  simp only [List.length_append, fanB_len, idsB_len h (Nat.le_refl _), crcB_len, shorts_len, longs_len]
  rw [show headB.length = 8 from rfl]
  omega
theorem bigF_allB (n : Nat) (x : Int) : AllB (Nu.bigF n x) := Nu.bigF_bytes n x
theorem bodyL_allB {rs : List RowC} (h : ∀ r ∈ rs, r.ok) (bs : List Bool) {pk : List Int} (hp : AllB pk) : AllB (bodyL rs bs pk) := by
  unfold bodyL
  refine ((((((AllIn.append ?_ ?_).append ?_).append ?_).append ?_).append ?_).append hp)
  · intro x hx; simp [headB] at hx; omega
  · exact accL_allB _ _ fun _ _ => bigF_allB _ _
  · exact accL_allB _ _ fun i hi => (rowI_ok h hi).2.1
  · exact accL_allB _ _ fun _ _ => bigF_allB _ _
  · exact accL_allB _ _ fun _ _ => bigF_allB _ _
  · refine accL_allB _ _ fun i _ => ?_
    unfold longI
    split
    · exact bigF_allB _ _
    · exact AllIn.nil

/-! What is read. -/
def fanR (p : List Int) (i : Nat) : Int := Nu.bigT p (8 + i * 4) 4
def shortR (p : List Int) (n i : Nat) : Int := Nu.bigT p (1032 + n * 36 + i * 4) 4
def longR (p : List Int) (n : Nat) : List Bool := (List.range n).map fun i => decide (2147483648 ≤ shortR p n i)
def rowR (p : List Int) (n i : Nat) : RowC :=
  ⟨seg p (1032 + i * 32) 32, Nu.bigT p (1032 + n * 32 + i * 4) 4, if lng (longR p n) i = true then Nu.bigT p (1032 + n * 40 + nl (longR p n) i * 8) 8 else shortR p n i⟩
def rowsR (p : List Int) (n : Nat) : List RowC := (List.range n).map (rowR p n)
theorem rowsR_length (p : List Int) (n : Nat) : (rowsR p n).length = n := by simp [rowsR]
theorem longR_length (p : List Int) (n : Nat) : (longR p n).length = n := by simp [longR]
theorem rowsR_get (p : List Int) (n i : Nat) (hi : i < n) : rowI (rowsR p n) i = rowR p n i := by
  rw [rowI_get (by rw [rowsR_length]; exact hi)]
  simp [rowsR]
theorem lng_longR (p : List Int) (n i : Nat) (hi : i < n) : lng (longR p n) i = decide (2147483648 ≤ shortR p n i) := by
  rw [lng_get (by rw [longR_length]; exact hi)]
  simp [longR]
/-- The size is right. -/
def Fit (p : List Int) (n : Nat) : Prop := p.length = 1096 + n * 40 + nl (longR p n) n * 8
/-- The long places are named in their order. -/
def Named (p : List Int) (n : Nat) : Prop := ∀ i, i < n → 2147483648 ≤ shortR p n i → shortR p n i = 2147483648 + (nl (longR p n) i : Int)
theorem rowR_ok {p : List Int} {n : Nat} (hA : AllB p) (hf : Fit p n) {i : Nat} (hi : i < n) : (rowR p n i).ok := by
  unfold Fit at hf
  have hs := bigT_range p (1032 + n * 36 + i * 4) 4 hA (by omega)
  have hc := bigT_range p (1032 + n * 32 + i * 4) 4 hA (by omega)
  refine ⟨seg_len p _ _ (by omega), (hA.drop _).take _, hc.1, hc.2, ?_, ?_⟩
  · unfold rowR
    dsimp only
    split
    · rename_i hl
      have h1 : nl (longR p n) (i + 1) ≤ nl (longR p n) n := nl_mono _ (by omega)
      rw [nl_succ, if_pos hl] at h1
      exact (bigT_range p _ 8 hA (by omega)).1
    · exact hs.1
  · unfold rowR
    dsimp only
    split
    · rename_i hl
      have h1 : nl (longR p n) (i + 1) ≤ nl (longR p n) n := nl_mono _ (by omega)
      rw [nl_succ, if_pos hl] at h1
      exact (bigT_range p _ 8 hA (by omega)).2
    · exact Int.lt_trans hs.2 (by decide)
theorem rowsR_ok {p : List Int} {n : Nat} (hA : AllB p) (hf : Fit p n) : ∀ r ∈ rowsR p n, r.ok := by
  intro r hr
  obtain ⟨i, hi, rfl⟩ := List.mem_map.1 hr
  exact rowR_ok hA hf (by simpa using hi)
def packR (p : List Int) : List Int := seg p (p.length - 64) 32

theorem six_inj {a1 a2 a3 a4 a5 a6 a7 b1 b2 b3 b4 b5 b6 b7 : List Int} (h1 : a1.length = b1.length) (h2 : a2.length = b2.length) (h3 : a3.length = b3.length) (h4 : a4.length = b4.length) (h5 : a5.length = b5.length) (h6 : a6.length = b6.length)
    (h : a1 ++ a2 ++ a3 ++ a4 ++ a5 ++ a6 ++ a7 = b1 ++ b2 ++ b3 ++ b4 ++ b5 ++ b6 ++ b7) : a1 = b1 ∧ a2 = b2 ∧ a3 = b3 ∧ a4 = b4 ∧ a5 = b5 ∧ a6 = b6 ∧ a7 = b7 := by
  simp only [List.append_assoc] at h
  obtain ⟨e1, h⟩ := List.append_inj h h1
  obtain ⟨e2, h⟩ := List.append_inj h h2
  obtain ⟨e3, h⟩ := List.append_inj h h3
  obtain ⟨e4, h⟩ := List.append_inj h h4
  obtain ⟨e5, h⟩ := List.append_inj h h5
  obtain ⟨e6, h⟩ := List.append_inj h h6
  exact ⟨e1, e2, e3, e4, e5, e6, h⟩
theorem seg_all (p : List Int) (n l : Nat) (h : p.length = 1096 + n * 40 + l * 8) : p.take (p.length - 32) = seg p 0 8 ++ seg p 8 (4 * 256) ++ seg p 1032 (32 * n) ++ seg p (1032 + n * 32) (4 * n) ++ seg p (1032 + n * 36) (4 * n) ++ seg p (1032 + n * 40) (8 * l) ++ seg p (p.length - 64) 32 := by
  have e0 : p.take (p.length - 32) = seg p 0 (p.length - 32) := by simp [seg]
  rw [e0, show p.length - 32 = 8 + (4 * 256) + (32 * n) + (4 * n) + (4 * n) + (8 * l) + 32 by omega]
  rw [seg_add, seg_add, seg_add, seg_add, seg_add, seg_add]
  rw [show 0 + 8 = 8 from rfl, show 0 + (8 + 4 * 256) = 1032 from rfl, show 0 + (8 + 4 * 256 + 32 * n) = 1032 + n * 32 by omega, show 0 + (8 + 4 * 256 + 32 * n + 4 * n) = 1032 + n * 36 by omega, show 0 + (8 + 4 * 256 + 32 * n + 4 * n + 4 * n) = 1032 + n * 40 by omega, show 0 + (8 + 4 * 256 + 32 * n + 4 * n + 4 * n + 8 * l) = p.length - 64 by omega]
theorem longs_seg (p : List Int) (n : Nat) (hA : AllB p) (hf : Fit p n) : ∀ k, k ≤ n → accL (longI (rowsR p n) (longR p n)) k = seg p (1032 + n * 40) (8 * nl (longR p n) k)
  | 0, _ => by simp [accL, seg, nl]
  | k + 1, h => by
    rw [accL_succ, longs_seg p n hA hf k (by omega), nl_succ]
    unfold longI
    split
    · rename_i hl
      have h1 : nl (longR p n) (k + 1) ≤ nl (longR p n) n := nl_mono _ (by omega)
      rw [nl_succ, if_pos hl] at h1
      unfold Fit at hf
      rw [rowsR_get p n k (by omega)]
      unfold rowR
      dsimp only
      rw [if_pos hl, bigF_seg p _ 8 hA (by omega), Nat.mul_add, seg_add, Nat.mul_one, Nat.mul_comm (nl (longR p n) k) 8]
    · simp
/-- What is built of what is read is what was read, just where the places are named in their order and the fan is that of the rows. -/
theorem build_read (p : List Int) (n : Nat) (hA : AllB p) (hf : Fit p n) (hn : n ≤ 4096) (hh : p.take 8 = headB) (hs : p.drop (p.length - 32) = sumB (p.take (p.length - 32))) :
    buildL (rowsR p n) (longR p n) (packR p) = p ↔ Named p n ∧ ∀ b, b < 256 → (cntL (rowsR p n) b : Int) = fanR p b := by
  have hf' := hf
  unfold Fit at hf'
  have hok := rowsR_ok hA hf
  have hbl := bodyL_len hok (longR p n) (packR p)
  have hpk : (packR p).length = 32 := seg_len p _ _ (by omega)
  rw [rowsR_length, hpk] at hbl
  have hall := seg_all p n (nl (longR p n) n) hf'
  have h0 : seg p 0 8 = headB := by rw [← hh]; simp [seg]
  have hids : idsB (rowsR p n) n = seg p 1032 (32 * n) := accL_seg p 1032 32 _ n fun i hi => by
    rw [rowsR_get p n i hi]
    unfold rowR
    rw [Nat.mul_comm]
  have hcrc : crcB (rowsR p n) n = seg p (1032 + n * 32) (4 * n) := accL_seg p (1032 + n * 32) 4 _ n fun i hi => by
    rw [rowsR_get p n i hi]
    unfold rowR
    dsimp only
    rw [bigF_seg p _ 4 hA (by omega), Nat.mul_comm 4 i]
  have hlg := longs_seg p n hA hf n (Nat.le_refl _)
  have hcnt : ∀ b, cntL (rowsR p n) b ≤ n := fun b => by
    have := cntL_le (rowsR p n) b
    rwa [rowsR_length] at this
  constructor
  · intro h
    unfold buildL at h
    have hbody : bodyL (rowsR p n) (longR p n) (packR p) = p.take (p.length - 32) := by
      have := congrArg (List.take (p.length - 32)) h
      rw [List.take_left' (by omega)] at this
      exact this
    rw [hall] at hbody
    unfold bodyL at hbody
    rw [rowsR_length] at hbody
    obtain ⟨-, e2, -, -, e5, -, -⟩ := six_inj (by rw [h0]) (by rw [fanB_len, seg_len p _ _ (by omega)]) (by rw [hids]) (by rw [hcrc]) (by rw [shorts_len, seg_len p _ _ (by omega)]) (by rw [hlg]) hbody
    refine ⟨fun i hi hl => ?_, fun b hb => ?_⟩
    · have := seg_accL p (1032 + n * 36) 4 _ n (by omega) (fun i _ => Nu.bigF_length _ _) e5 i hi
      unfold shortI at this
      rw [if_pos (by rw [lng_longR p n i hi, decide_eq_true hl]), ← bigF_seg p _ 4 hA (by omega)] at this
      have hnl := nl_le (longR p n) i
      have hr := bigT_range p (1032 + n * 36 + 4 * i) 4 hA (by omega)
      have := bigF_inj (by omega) (by omega) hr.1 hr.2 this
      unfold shortR
      rw [Nat.mul_comm i 4]
      omega
    · have := seg_accL p 8 4 _ 256 (by omega) (fun i _ => Nu.bigF_length _ _) e2 b hb
      rw [← bigF_seg p _ 4 hA (by omega)] at this
      have hc := hcnt b
      have hr := bigT_range p (8 + 4 * b) 4 hA (by omega)
      have := bigF_inj (by omega) (by omega) hr.1 hr.2 this
      unfold fanR
      rw [Nat.mul_comm b 4]
      exact this
  · rintro ⟨hN, hF⟩
    have hfan : fanB (rowsR p n) 256 = seg p 8 (4 * 256) := accL_seg p 8 4 _ 256 fun b hb => by
      rw [hF b hb]
      unfold fanR
      rw [bigF_seg p _ 4 hA (by omega), Nat.mul_comm b 4]
    have hsh : accL (shortI (rowsR p n) (longR p n)) n = seg p (1032 + n * 36) (4 * n) := accL_seg p (1032 + n * 36) 4 _ n fun i hi => by
      unfold shortI
      have e : (if lng (longR p n) i = true then 2147483648 + (nl (longR p n) i : Int) else (rowI (rowsR p n) i).pl) = shortR p n i := by
        split
        · rename_i hl
          rw [lng_longR p n i hi] at hl
          exact (hN i hi (of_decide_eq_true hl)).symm
        · rename_i hl
          rw [rowsR_get p n i hi]
          unfold rowR
          dsimp only
          rw [if_neg hl]
      rw [e]
      unfold shortR
      rw [bigF_seg p _ 4 hA (by omega), Nat.mul_comm i 4]
    have hbody : bodyL (rowsR p n) (longR p n) (packR p) = p.take (p.length - 32) := by
      unfold bodyL
      rw [rowsR_length, hfan, hids, hcrc, hsh, hlg, hall, h0]
      rfl
    unfold buildL
    rw [hbody, ← hs, List.take_append_drop]
end Go.Proofs.YtgoegmaepafopaaDoor
