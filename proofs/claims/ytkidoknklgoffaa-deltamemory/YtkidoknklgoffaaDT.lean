/-
  What deltas tell: pieces of a delta and what they put out.
-/
import Derived.Test.YtkidoknklgoffaaDW7
import Derived.Test.YtkidoknklgoffaaNuMath4
namespace Go.Proofs.Ytkidoknklgoffaa
open Go.RowKit

theorem goF_fuel (base d : List Int) (hg : AllB base) (hd : AllB d) (size : Nat) : ∀ (f g : Nat) (out : List Int) (a : Nat), d.length - a < f → d.length - a < g → goF base d size f out a = goF base d size g out a
  | 0, _, _, _, h, _ => by omega
  | _ + 1, 0, _, _, _, h => by omega
  | f + 1, g + 1, out, a, h1, h2 => by
    by_cases ha : a < d.length
    · rw [goF_lt base size out f ha, goF_lt base size out g ha]
      rcases hI : insF base d a with ⟨part, b⟩ | e
      · have hib := insF_lt hg hd ha hI
        simp only []
        rw [goF_fuel base d hg hd size f g (out ++ part) b (by omega) (by omega)]
      · rfl
    · rw [goF_ge base size out f ha, goF_ge base size out g ha]
/-- What is put out from a place on. -/
def goD (base d : List Int) (size : Nat) (out : List Int) (a : Nat) : An (List Int) := goF base d size (d.length - a + 1) out a

/-- The bytes I tell o, wherever they stand. -/
def Tl (base I o : List Int) : Prop := AllB I ∧ ∀ (pre post : List Int) (size : Nat) (out : List Int), AllB pre → AllB post → out.length + o.length ≤ size → goD base (pre ++ (I ++ post)) size out pre.length = goD base (pre ++ (I ++ post)) size (out ++ o) (pre ++ I).length
theorem Tl.nil (base : List Int) : Tl base [] [] := ⟨AllIn.nil, fun pre post size out _ _ _ => by simp⟩
theorem Tl.append {base I J o p : List Int} (h : Tl base I o) (k : Tl base J p) : Tl base (I ++ J) (o ++ p) := by
  refine ⟨h.1.append k.1, fun pre post size out h1 h2 h3 => ?_⟩
  rw [List.length_append] at h3
  have e1 := h.2 pre (J ++ post) size out h1 (k.1.append h2) (by omega)
  have e2 := k.2 (pre ++ I) post size (out ++ o) (h1.append h.1) h2 (by rw [List.length_append]; omega)
  rw [List.append_assoc] at e2
  rw [List.append_assoc, e1, e2, List.append_assoc, List.append_assoc]
/-- One instruction. -/
theorem Tl.one {base I o : List Int} (hg : AllB base) (hI : AllB I) (h0 : 0 < I.length) (h : ∀ pre post : List Int, AllB pre → AllB post → insF base (pre ++ (I ++ post)) pre.length = .ok (o, (pre ++ I).length)) : Tl base I o := by
  refine ⟨hI, fun pre post size out h1 h2 h3 => ?_⟩
  have hd : AllB (pre ++ (I ++ post)) := h1.append (hI.append h2)
  have hlt : pre.length < (pre ++ (I ++ post)).length := by simp; omega
  unfold goD
  rw [goF_lt base size out _ hlt, h pre post h1 h2]
  simp only []
  rw [if_neg (by omega)]
  exact goF_fuel base _ hg hd size _ _ _ _ (by simp; omega) (by omega)

theorem drop_len (pre : List Int) (x : Int) (r : List Int) : (pre ++ x :: r).getD pre.length 0 = x := by simp [List.getD]
theorem Tl.ins1 {base q : List Int} (hg : AllB base) (hq : AllB q) (h1 : 1 ≤ q.length) (h2 : q.length ≤ 127) : Tl base ((q.length : Int) :: q) q := by
  refine Tl.one hg ((AllIn.one (by omega) (by omega)).append hq) (by simp) fun pre post _ _ => ?_
  unfold insF
  rw [List.cons_append, drop_len, if_neg (by omega), if_pos (by omega), if_neg (by simp; omega)]
  have e : ((pre ++ (q.length : Int) :: (q ++ post)).drop (pre.length + 1)).take (q.length : Int).toNat = q := by
    rw [Int.toNat_natCast, ← List.drop_drop, List.drop_left]
    simp
  rw [e]
  congr 2
  simp
  omega
theorem Tl.ins {base : List Int} (hg : AllB base) : ∀ (n : Nat) (p : List Int), p.length ≤ n → AllB p → Tl base (insL p) p
  | 0, p, h, _ => by
    have : p = [] := List.eq_nil_of_length_eq_zero (by omega)
    subst this
    exact Tl.nil base
  | n + 1, p, h, hp => by
    by_cases h0 : 0 < p.length
    · rw [insL_cons h0]
      have e : (p.take (min p.length 127)).length = min p.length 127 := by simp
      have k1 := Tl.ins1 (base := base) hg (hp.take (min p.length 127)) (by omega) (by omega)
      rw [e] at k1
      have k2 := k1.append (Tl.ins hg n (p.drop (min p.length 127)) (by simp; omega) (hp.drop _))
      rw [List.take_append_drop] at k2
      exact k2
    · have : p = [] := List.eq_nil_of_length_eq_zero (by omega)
      subst this
      exact Tl.nil base

/-- Those of n numbers from i on that are not 0. -/
def nzL (b : Nat → Int) : Nat → Nat → List Int
  | _, 0 => []
  | i, n + 1 => if b i = 0 then nzL b (i + 1) n else b i :: nzL b (i + 1) n
theorem nzL_add (b : Nat → Int) : ∀ (n m i : Nat), nzL b i (n + m) = nzL b i n ++ nzL b (i + n) m
  | 0, m, i => by simp [nzL]
  | n + 1, m, i => by
    rw [show n + 1 + m = (n + m) + 1 from by omega, nzL, nzL, nzL_add b n m (i + 1), show i + 1 + n = i + (n + 1) from by omega]
    split <;> rfl
theorem nzL_shift (b : Nat → Int) (k : Nat) : ∀ (n i : Nat), nzL b (k + i) n = nzL (fun j => b (k + j)) i n
  | 0, i => rfl
  | n + 1, i => by
    rw [nzL, nzL, show k + i + 1 = k + (i + 1) from by omega, nzL_shift b k n (i + 1)]
theorem nzL_len (b : Nat → Int) : ∀ (n i : Nat), (nzL b i n).length ≤ n
  | 0, _ => by simp [nzL]
  | n + 1, i => by
    have := nzL_len b n (i + 1)
    rw [nzL]
    split
    · omega
    · simp; omega
theorem cpA_nz (at_ n : Int) : ∀ i, (cpA at_ n i).2 = nzL (byF at_ n) 0 i
  | 0 => rfl
  | i + 1 => by
    rw [nzL_add _ i 1 0, cpA]
    simp only [nzL, Nat.zero_add]
    split
    · rw [List.append_nil, cpA_nz at_ n i]
    · simp only []
      rw [cpA_nz at_ n i]
/-- Whether a byte stands there. -/
def tF (x : Int) : Int := if x = 0 then 0 else 1
theorem tF_rng (x : Int) : 0 ≤ tF x ∧ tF x ≤ 1 := by unfold tF; split <;> omega
theorem cpA_sum (at_ n : Int) : ∀ i, (cpA at_ n (i + 1)).1 = (cpA at_ n i).1 + tF (byF at_ n i) * 2 ^ i := by
  intro i
  unfold tF
  rw [cpA]
  split <;> rename_i h
  · simp
  · simp
theorem cpA_bit (at_ n : Int) (k : Nat) (hk : k < 7) : (cpA at_ n 7).1 / 2 ^ k % 2 = tF (byF at_ n k) := by
  have e : (cpA at_ n 7).1 = 128 + tF (byF at_ n 0) + tF (byF at_ n 1) * 2 + tF (byF at_ n 2) * 4 + tF (byF at_ n 3) * 8 + tF (byF at_ n 4) * 16 + tF (byF at_ n 5) * 32 + tF (byF at_ n 6) * 64 := by
    rw [cpA_sum, cpA_sum, cpA_sum, cpA_sum, cpA_sum, cpA_sum, cpA_sum]
    simp [cpA]
  rw [e]
  have h0 := tF_rng (byF at_ n 0)
  have h1 := tF_rng (byF at_ n 1)
  have h2 := tF_rng (byF at_ n 2)
  have h3 := tF_rng (byF at_ n 3)
  have h4 := tF_rng (byF at_ n 4)
  have h5 := tF_rng (byF at_ n 5)
  have h6 := tF_rng (byF at_ n 6)
  rcases (by omega : k = 0 ∨ k = 1 ∨ k = 2 ∨ k = 3 ∨ k = 4 ∨ k = 5 ∨ k = 6) with rfl | rfl | rfl | rfl | rfl | rfl | rfl <;> simp only [Int.reducePow] <;> omega
/-- A number of which some bytes stand there is read. -/
theorem spF_dec (d : List Int) (c : Int) (b : Nat → Int) : ∀ (n i : Nat) (x : Int) (a : Nat) (r : List Int), (∀ k, i ≤ k → k < i + n → c / 2 ^ k % 2 = tF (b k)) → d.drop a = nzL b i n ++ r →
      spF d c n i x a = some (x + (List.range n).foldr (fun j s => b (i + j) * 256 ^ (i + j) + s) 0, a + (nzL b i n).length)
  | 0, i, x, a, r, _, _ => by simp [spF, nzL]
  | n + 1, i, x, a, r, hb, hd => by
    have h0 := hb i (by omega) (by omega)
    have hs : (List.range (n + 1)).foldr (fun j s => b (i + j) * 256 ^ (i + j) + s) 0 = b i * 256 ^ i + (List.range n).foldr (fun j s => b (i + 1 + j) * 256 ^ (i + 1 + j) + s) 0 := by
      rw [List.range_succ_eq_map, List.foldr_cons, List.foldr_map]
      simp only [Nat.add_zero, Nat.succ_eq_add_one]
      congr 2
      funext j s
      rw [show i + (j + 1) = i + 1 + j from by omega]
    rw [hs, spF, h0]
    by_cases hz : b i = 0
    · rw [nzL, if_pos hz] at hd
      rw [show tF (b i) = 0 from by rw [hz]; rfl, if_pos rfl, spF_dec d c b n (i + 1) x a r (fun k h1 h2 => hb k (by omega) (by omega)) hd, nzL, if_pos hz, hz]
      simp
    · rw [nzL, if_neg hz, List.cons_append] at hd
      have hlt : a < d.length := by
        rcases Nat.lt_or_ge a d.length with h | h
        · exact h
        · rw [List.drop_eq_nil_of_le h] at hd
          cases hd
      have hg : d.getD a 0 = b i := by
        rw [Nu.drop_cons d a hlt] at hd
        injection hd
      have hd2 : d.drop (a + 1) = nzL b (i + 1) n ++ r := by
        rw [Nu.drop_cons d a hlt] at hd
        injection hd
      rw [show tF (b i) = 1 from if_neg hz, if_neg (by omega), if_pos hlt, hg, spF_dec d c b n (i + 1) _ (a + 1) r (fun k h1 h2 => hb k (by omega) (by omega)) hd2, nzL, if_neg hz, List.length_cons]
      congr 2
      · rw [Int.add_assoc]
      · omega

theorem cpL_pos (at_ n : Int) : 0 < (cpL at_ n).length := by simp [cpL]
theorem cpL_len (at_ n : Int) : (cpL at_ n).length ≤ 8 := by
  have := cpA_len at_ (if n = 65536 then 0 else n) 7
  simp [cpL]
  omega
theorem cpL_all (at_ n : Int) : AllB (cpL at_ n) := by
  have := cpA_range at_ (if n = 65536 then 0 else n) 7
  exact (AllIn.one (by omega) (by have := this.2; simp only [Int.reducePow] at this; omega)).append (cpA_all _ _ 7)
theorem Tl.copy {base : List Int} (hg : AllB base) {at_ n : Nat} (h1 : 1 ≤ n) (h2 : n < 16777216) (h3 : at_ < 4294967296) (h4 : at_ + n ≤ base.length) : Tl base (cpL at_ n) ((base.drop at_).take n) := by
  refine Tl.one hg (cpL_all _ _) (cpL_pos _ _) fun pre post _ _ => ?_
  obtain ⟨N, hN⟩ : ∃ N : Int, N = if (n : Int) = 65536 then (0 : Int) else (n : Int) := ⟨_, rfl⟩
  have hN0 : 0 ≤ N ∧ N < 16777216 ∧ cntF N = n := by
    rw [hN]
    unfold cntF
    split
    · rename_i h
      simp
      omega
    · rw [if_neg (by omega)]
      omega
  have hcp : cpL at_ n = (cpA at_ N 7).1 :: nzL (byF at_ N) 0 7 := by
    unfold cpL
    rw [← hN, cpA_nz]
  have hr := cpA_range at_ N 7
  have hbit := fun k hk => cpA_bit at_ N k hk
  rw [hcp]
  generalize (cpA at_ N 7).1 = C at *
  unfold insF
  rw [List.cons_append, drop_len, if_neg (by omega), if_neg (by omega)]
  have hz7 : nzL (byF at_ N) 0 7 = nzL (byF at_ N) 0 4 ++ nzL (fun j => byF at_ N (4 + j)) 0 3 := by
    rw [nzL_add _ 4 3 0, ← nzL_shift (byF at_ N) 4 3 0]
  have hd0 : (pre ++ C :: (nzL (byF at_ N) 0 7 ++ post)).drop (pre.length + 1) = nzL (byF at_ N) 0 4 ++ (nzL (fun j => byF at_ N (4 + j)) 0 3 ++ post) := by
    rw [← List.drop_drop, List.drop_left, hz7]
    simp
  have hd1 : (pre ++ C :: (nzL (byF at_ N) 0 7 ++ post)).drop (pre.length + 1 + (nzL (byF at_ N) 0 4).length) = nzL (fun j => byF at_ N (4 + j)) 0 3 ++ post := by
    rw [← List.drop_drop, hd0, List.drop_left]
  unfold cpF
  rw [spF_dec _ C (byF at_ N) 4 0 0 _ _ (fun k _ hk => hbit k (by omega)) hd0]
  simp only []
  rw [spF_dec _ (C / 16) (fun j => byF at_ N (4 + j)) 3 0 0 _ _ (fun k _ hk => by
    have := hbit (4 + k) (by omega)
    rw [← this, Int.pow_add, Int.ediv_ediv_of_nonneg (by omega)]
    rfl) hd1]
  simp only []
  have e1 : (0 : Int) + (List.range 4).foldr (fun j s => byF at_ N (0 + j) * 256 ^ (0 + j) + s) 0 = at_ := by
    simp [List.range, List.range.loop, byF]
    omega
  have e2 : (0 : Int) + (List.range 3).foldr (fun j s => byF at_ N (4 + (0 + j)) * 256 ^ (0 + j) + s) 0 = N := by
    simp [List.range, List.range.loop, byF]
    omega
  rw [e1, e2, hN0.2.2, if_neg (by omega), Int.toNat_natCast, Int.toNat_natCast]
  congr 2
  rw [List.length_append, List.length_cons, hz7, List.length_append]
  omega
end Go.Proofs.Ytkidoknklgoffaa
