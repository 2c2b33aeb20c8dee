/-
  The document's codes are the program's: the stop where no symbol is left, zeros at the end of the counts, which lengths are right.
-/
import Derived.Test.YtjijkcmbbccfmaaDoorD10
namespace Go.Proofs.YtjijkcmbbccfmaaDoor
open Go.RowKit

def trimEnd : List Int → List Int
  | [] => []
  | c :: cs => if ∀ x ∈ c :: cs, x = 0 then [] else c :: trimEnd cs
theorem trimEnd_zero (cs : List Int) (h : ∀ x ∈ cs, x = 0) : trimEnd cs = [] := by
  cases cs with
  | nil => rfl
  | cons c cs => rw [trimEnd, if_pos h]
theorem trimEnd_snoc (y : Int) : ∀ cs : List Int, trimEnd (cs ++ [y]) = if y = 0 then trimEnd cs else cs ++ [y]
  | [] => by
    by_cases h : y = 0 <;> simp [trimEnd, h]
  | c :: cs => by
    rw [List.cons_append, trimEnd, trimEnd_snoc y cs]
    by_cases h : y = 0
    · subst h
      rw [if_pos rfl, if_pos rfl, trimEnd]
      by_cases k : ∀ x ∈ c :: cs, x = 0
      · rw [if_pos k, if_pos]
        intro x hx
        rw [← List.cons_append, List.mem_append] at hx
        rcases hx with hx | hx
        · exact k x hx
        · simpa using hx
      · rw [if_neg k, if_neg]
        intro hh
        exact k (fun x hx => hh x (by rw [← List.cons_append, List.mem_append]; exact Or.inl hx))
    · rw [if_neg h, if_neg h, if_neg]
      intro hh
      exact h (hh y (by simp))
theorem trimF_snoc (x y : Int) (cs : List Int) : trimF (x :: (cs ++ [y])) = if y = 0 then trimF (x :: cs) else x :: (cs ++ [y]) := by
  unfold trimF
  have e : (x :: (cs ++ [y])).reverse = y :: (x :: cs).reverse := by simp
  obtain ⟨z, zs, hz⟩ : ∃ z zs, (x :: cs).reverse = z :: zs := by
    cases h : (x :: cs).reverse with
    | nil => simp at h
    | cons z zs => exact ⟨z, zs, rfl⟩
  rw [e, hz, trimR]
  by_cases h : y = 0
  · rw [if_pos h, if_pos h]
  · rw [if_neg h, if_neg h, ← hz, ← e, List.reverse_reverse]
theorem snoc_of_len {n : Nat} (cs : List Int) (h : cs.length = n + 1) : ∃ l y, cs = l ++ [y] ∧ l.length = n := by
  have hne : cs ≠ [] := by
    intro e
    rw [e] at h
    simp at h
  refine ⟨cs.dropLast, cs.getLast hne, (List.dropLast_concat_getLast hne).symm, by simp [h]⟩
theorem trimF_tail (x : Int) : ∀ (n : Nat) (cs : List Int), cs.length = n → (trimF (x :: cs)).tail = trimEnd cs
  | 0, cs, h => by
    have : cs = [] := List.eq_nil_of_length_eq_zero h
    subst this
    rfl
  | n + 1, cs, h => by
    obtain ⟨l, y, rfl, hl⟩ := snoc_of_len cs h
    rw [trimF_snoc, trimEnd_snoc]
    by_cases hy : y = 0
    · rw [if_pos hy, if_pos hy]
      exact trimF_tail x n l hl
    · rw [if_neg hy, if_neg hy]
      rfl

/-- A symbol, as the document takes it: it stops where no symbol is left. -/
def dGo (p syms : List Int) : List Int → Int → Int → Nat → Rs Int
  | [], _, _, _ => .bad .form
  | c :: cs, past, at_, t =>
    if at_ = syms.length then .bad .form else
    match numF p 1 t with
    | .bad e => .bad e
    | .ok b t' => if 2 * past + b < c then .ok (syms.getD (at_ + (2 * past + b)).toNat 0) t' else dGo p syms cs (2 * past + b - c) (at_ + c) t'
theorem sum_zero : ∀ l : List Int, (∀ x ∈ l, 0 ≤ x) → 0 ≤ l.sum ∧ (l.sum = 0 → ∀ x ∈ l, x = 0)
  | [], _ => by simp
  | x :: l, h => by
    have ih := sum_zero l (fun y hy => h y (by simp [hy]))
    have hx := h x (by simp)
    rw [List.sum_cons]
    refine ⟨by omega, fun h0 y hy => ?_⟩
    rcases List.mem_cons.1 hy with rfl | hy
    · omega
    · exact ih.2 (by omega) y hy
theorem sum_all_zero : ∀ l : List Int, (∀ x ∈ l, x = 0) → l.sum = 0
  | [], _ => rfl
  | x :: l, h => by
    rw [List.sum_cons, h x (by simp), sum_all_zero l (fun y hy => h y (by simp [hy]))]
    rfl
theorem dGo_trim (p syms : List Int) : ∀ (cs : List Int) (past at_ : Int) (t : Nat), (∀ x ∈ cs, 0 ≤ x) → at_ + cs.sum = syms.length → dGo p syms cs past at_ t = symGo p syms (trimEnd cs) past at_ t
  | [], _, _, _, _, _ => rfl
  | c :: cs, past, at_, t, hn, hs => by
    by_cases k : ∀ x ∈ c :: cs, x = 0
    · rw [trimEnd_zero _ k, symGo, dGo, if_pos (by rw [sum_all_zero _ k] at hs; omega)]
    · have hne : ¬ at_ = syms.length := by
        intro e
        exact k ((sum_zero _ hn).2 (by omega))
      rw [trimEnd, if_neg k, symGo, dGo, if_neg hne]
      rw [List.sum_cons] at hs
      rcases numF p 1 t with ⟨b, t'⟩ | er
      · dsimp only
        rw [dGo_trim p syms cs _ _ _ (fun x hx => hn x (by simp [hx])) (by omega)]
      · rfl

theorem cntsF_getD (L : List Int) : ∀ (n i : Nat), i ≤ n → (cntsF L n).getD i 0 = if i = 0 then 0 else ((idxF (i : Int) L 0).length : Int)
  | 0, i, h => by
    obtain rfl : i = 0 := by omega
    rfl
  | n + 1, i, h => by
    rw [cntsF]
    by_cases hi : i ≤ n
    · rw [← cntsF_getD L n i hi]
      simp only [List.getD]
      rw [List.getElem?_append_left (by rw [cntsF_length]; omega)]
    · obtain rfl : i = n + 1 := by omega
      simp only [List.getD]
      rw [List.getElem?_append_right (by rw [cntsF_length]; omega), cntsF_length]
      simp
theorem cs_cnts (L : List Int) : csF L 16 0 = cntsF L 15 := by
  apply list_ext_getD (by rw [csF_length, cntsF_length])
  intro i hi
  rw [csF_length] at hi
  rw [csF_getD L 16 0 i hi, cntsF_getD L 15 i (by omega)]
  by_cases h : i = 0
  · simp [h]
  · rw [if_neg (by omega), if_pos (by omega), if_neg h]
theorem cntsF_nonneg (L : List Int) : ∀ n, ∀ x ∈ cntsF L n, 0 ≤ x
  | 0, x, h => by
    simp [cntsF] at h
    omega
  | n + 1, x, h => by
    rw [cntsF, List.mem_append] at h
    rcases h with h | h
    · exact cntsF_nonneg L n x h
    · simp at h
      omega
theorem cntsF_sum (L : List Int) : ∀ n, (cntsF L n).sum = ((symsF L n).length : Int)
  | 0 => rfl
  | n + 1 => by
    rw [cntsF, symsF, List.sum_append, cntsF_sum L n, List.length_append]
    simp
theorem cntsF_head (L : List Int) : ∀ n, ∃ cs, cntsF L n = 0 :: cs ∧ cs.length = n
  | 0 => ⟨[], rfl, rfl⟩
  | n + 1 => by
    obtain ⟨cs, h, hl⟩ := cntsF_head L n
    exact ⟨cs ++ [((idxF ((n : Int) + 1) L 0).length : Int)], by rw [cntsF, h]; rfl, by simp [hl]⟩
/-- The document's next symbol is the program's. -/
theorem dGo_sym (p L : List Int) (t : Nat) : dGo p (symsF L 15) (csF L 16 0).tail 0 0 t = symF p (mkCd L) t := by
  obtain ⟨cs, h, hl⟩ := cntsF_head L 15
  have hs := cntsF_sum L 15
  have hn := cntsF_nonneg L 15
  unfold symF mkCd
  rw [cs_cnts]
  rw [h] at hs hn ⊢
  dsimp only
  rw [trimF_tail 0 15 cs hl]
  rw [List.sum_cons] at hs
  exact dGo_trim p _ cs 0 0 t (fun x hx => hn x (by simp [hx])) (by omega)

/-- What the lengths from 1 to n weigh together. -/
def wsum (f : Int → Int) (n : Nat) : List Int → Int
  | [] => 0
  | x :: l => (if 1 ≤ x ∧ x ≤ n then f x else 0) + wsum f n l
theorem wsum_zero (f : Int → Int) : ∀ l, wsum f 0 l = 0
  | [] => rfl
  | x :: l => by
    rw [wsum, wsum_zero f l, if_neg (by omega)]
    rfl
theorem wsum_succ (f : Int → Int) (n : Nat) : ∀ (l : List Int) (i : Int), wsum f (n + 1) l = wsum f n l + ((idxF ((n : Int) + 1) l i).length : Int) * f ((n : Int) + 1)
  | [], i => by simp [wsum, idxF]
  | x :: l, i => by
    rw [wsum, wsum, wsum_succ f n l (i + 1), idxF]
    by_cases h : x = (n : Int) + 1
    · rw [if_pos h, if_pos (by omega), if_neg (by omega), List.length_cons, h, Int.natCast_add, Int.add_mul]
      simp
      omega
    · rw [if_neg h]
      by_cases h2 : 1 ≤ x ∧ x ≤ n
      · rw [if_pos (by omega), if_pos h2]
        omega
      · rw [if_neg (by omega), if_neg h2]
        omega
theorem syms_wsum (L : List Int) : ∀ n, ((symsF L n).length : Int) = wsum (fun _ => 1) n L
  | 0 => by rw [wsum_zero]; rfl
  | n + 1 => by
    rw [wsum_succ _ n L 0, ← syms_wsum L n, symsF, List.length_append]
    simp
theorem sumF_snoc (y : Int) : ∀ (l : List Int) (k : Nat), sumF (l ++ [y]) k = sumF l k + y * 2 ^ (15 - (k + l.length))
  | [], k => by simp [sumF]
  | x :: l, k => by
    rw [List.cons_append, sumF, sumF_snoc y l (k + 1), sumF, List.length_cons, show k + 1 + l.length = k + (l.length + 1) from by omega]
    omega
theorem sumF_cnts (L : List Int) : ∀ n, n ≤ 15 → sumF (cntsF L n) 0 = wsum (fun x => 2 ^ (15 - x).toNat) n L
  | 0, _ => by simp [cntsF, sumF, wsum_zero]
  | n + 1, h => by
    rw [cntsF, sumF_snoc, sumF_cnts L n (by omega), wsum_succ _ n L 0, cntsF_length, show (15 - ((n : Int) + 1)).toNat = 15 - (0 + (n + 1)) from by omega]
theorem sumF_trim : ∀ (n : Nat) (x : Int) (cs : List Int), cs.length = n → sumF (trimF (x :: cs)) 0 = sumF (x :: cs) 0
  | 0, x, cs, h => by
    have : cs = [] := List.eq_nil_of_length_eq_zero h
    subst this
    rfl
  | n + 1, x, cs, h => by
    obtain ⟨l, y, rfl, hl⟩ := snoc_of_len cs h
    rw [trimF_snoc]
    by_cases hy : y = 0
    · rw [if_pos hy, sumF_trim n x l hl, ← List.cons_append, sumF_snoc, hy]
      simp
    · rw [if_neg hy]
theorem dsum_wsum : ∀ L : List Int, AllIn 0 16 L → dsum L = wsum (fun x => 2 ^ (15 - x).toNat) 15 L
  | [], _ => rfl
  | x :: l, h => by
    have hx := h x (by simp)
    rw [dsum, wsum, dsum_wsum l (fun y hy => h y (by simp [hy]))]
    by_cases h0 : 0 < x
    · rw [if_pos h0, if_pos (by omega)]
    · rw [if_neg h0, if_neg (by omega)]
theorem dcnt_wsum : ∀ L : List Int, AllIn 0 16 L → dcnt L = wsum (fun _ => 1) 15 L
  | [], _ => rfl
  | x :: l, h => by
    have hx := h x (by simp)
    rw [dcnt, wsum, dcnt_wsum l (fun y hy => h y (by simp [hy]))]
    by_cases h0 : 0 < x
    · rw [if_pos h0, if_pos (by omega)]
    · rw [if_neg h0, if_neg (by omega)]
theorem one_none : ∀ (l : List Int) (i f : Int), dcnt l = 0 → idxF 1 l i = [] ∧ dlast l f = f
  | [], _, _, _ => ⟨rfl, rfl⟩
  | x :: l, i, f, h => by
    have hr := dcnt_range l
    rw [dcnt] at h
    by_cases h0 : 0 < x
    · rw [if_pos h0] at h
      omega
    · rw [if_neg h0] at h
      have ih := one_none l (i + 1) f (by omega)
      rw [idxF, if_neg (by omega), dlast, if_neg h0]
      exact ih
theorem one_last : ∀ (l : List Int) (i f : Int), dcnt l = 1 → (dlast l f = 1 ↔ (idxF 1 l i).length = 1)
  | [], _, _, h => by simp [dcnt] at h
  | x :: l, i, f, h => by
    have hr := dcnt_range l
    rw [dcnt] at h
    by_cases h0 : 0 < x
    · rw [if_pos h0] at h
      have ih := one_none l (i + 1) x (by omega)
      rw [idxF, dlast, if_pos h0, ih.1, ih.2]
      by_cases h1 : x = 1
      · simp [h1]
      · simp [h1]
    · rw [if_neg h0] at h
      rw [idxF, if_neg (by omega), dlast, if_neg h0]
      exact one_last l (i + 1) f (by omega)
theorem trimEnd_one (c : Int) (cs : List Int) (hn : ∀ x ∈ c :: cs, 0 ≤ x) (hs : (c :: cs).sum = 1) : (trimEnd (c :: cs)).length = 1 ↔ c = 1 := by
  have hk : ¬ ∀ x ∈ c :: cs, x = 0 := by
    intro k
    rw [sum_all_zero _ k] at hs
    omega
  rw [List.sum_cons] at hs
  have h0 := sum_zero cs (fun x hx => hn x (by simp [hx]))
  have hc := hn c (by simp)
  rw [trimEnd, if_neg hk, List.length_cons]
  constructor
  · intro h
    have he : trimEnd cs = [] := List.eq_nil_of_length_eq_zero (by omega)
    have : cs.sum = 0 := by
      cases cs with
      | nil => rfl
      | cons d ds =>
        rw [trimEnd] at he
        by_cases k : ∀ x ∈ d :: ds, x = 0
        · exact sum_all_zero _ k
        · rw [if_neg k] at he
          cases he
    omega
  · intro h
    rw [trimEnd_zero cs (h0.2 (by omega))]
    rfl
theorem trim_len (x : Int) : ∀ (n : Nat) (cs : List Int), cs.length = n → (trimF (x :: cs)).length = (trimEnd cs).length + 1
  | 0, cs, h => by
    have : cs = [] := List.eq_nil_of_length_eq_zero h
    subst this
    rfl
  | n + 1, cs, h => by
    obtain ⟨l, y, rfl, hl⟩ := snoc_of_len cs h
    rw [trimF_snoc, trimEnd_snoc]
    by_cases hy : y = 0
    · rw [if_pos hy, if_pos hy]
      exact trim_len x n l hl
    · rw [if_neg hy, if_neg hy]
      simp
theorem one_light : ∀ l : List Int, wsum (fun _ => 1) 15 l = 1 → wsum (fun x => 2 ^ (15 - x).toNat) 15 l ≤ 16384 := by
  have hz : ∀ m : List Int, 0 ≤ wsum (fun _ => 1) 15 m ∧ (wsum (fun _ => 1) 15 m = 0 → wsum (fun x => (2 : Int) ^ (15 - x).toNat) 15 m = 0) := by
    intro m
    induction m with
    | nil => simp [wsum]
    | cons y m ihm =>
      rw [wsum, wsum]
      by_cases hy : 1 ≤ y ∧ y ≤ (15 : Nat)
      · rw [if_pos hy, if_pos hy]
        exact ⟨by omega, fun h => by omega⟩
      · rw [if_neg hy, if_neg hy]
        simpa using ihm
  intro l
  induction l with
  | nil => intro; simp [wsum]
  | cons x l ih =>
    intro hk
    rw [wsum] at hk ⊢
    by_cases hx : 1 ≤ x ∧ x ≤ (15 : Nat)
    · rw [if_pos hx] at hk ⊢
      rw [(hz l).2 (by omega)]
      have : (2 : Int) ^ (15 - x).toNat ≤ 2 ^ 14 := pow2_le (by omega)
      simpa using this
    · rw [if_neg hx] at hk ⊢
      rw [Int.zero_add] at hk ⊢
      exact ih hk
/-- The same over plain names. -/
theorem right_plain {sy cn cs ix : List Int} {ds dc dl : Int} (h : cn = 0 :: cs) (hl : cs.length = 15) (hs : cn.sum = (sy.length : Int)) (hn : ∀ x ∈ cn, 0 ≤ x) (hsum : sumF cn 0 = ds) (hcnt : (sy.length : Int) = dc)
    (hg : cn.getD 1 0 = (ix.length : Int)) (hlast : dc = 1 → (dl = 1 ↔ ix.length = 1)) (hlight : dc = 1 → ds ≤ 16384) :
    rightF ⟨trimF cn, sy⟩ = (decide (ds = 32768) || (decide (dc = 1) && decide (dl = 1))) := by
  subst h
  have htr := sumF_trim 15 0 cs hl
  have hlen := trim_len 0 15 cs hl
  unfold rightF
  dsimp only
  by_cases h1 : sy.length = 1
  · have hd1 : dc = 1 := by omega
    obtain ⟨c, ds', rfl⟩ : ∃ c d, cs = c :: d := by
      cases cs with
      | nil => simp at hl
      | cons c d => exact ⟨c, d, rfl⟩
    have hsc : (c :: ds').sum = 1 := by
      rw [List.sum_cons] at hs
      omega
    have ht := trimEnd_one c ds' (fun x hx => hn x (by simp [hx])) hsc
    have hc1 : c = (ix.length : Int) := by simpa using hg
    have hl1 := hlast hd1
    have hne : ¬ ds = 32768 := by
      have := hlight hd1
      omega
    rw [if_pos h1, decide_eq_false hne, Bool.false_or, decide_eq_true hd1, Bool.true_and, Bool.eq_iff_iff, decide_eq_true_iff, decide_eq_true_iff, hl1, hlen]
    constructor
    · intro e
      have := ht.1 (by omega)
      omega
    · intro e
      have := ht.2 (by omega)
      omega
  · have hd1 : ¬ dc = 1 := by omega
    rw [if_neg h1, decide_eq_false hd1, Bool.false_and, Bool.or_false, htr, hsum]
/-- Lengths are right to the document as they are to the program. -/
theorem dright_same (L : List Int) (hin : AllIn 0 16 L) (none_ : Bool) : dright L none_ = (rightF (mkCd L) || (none_ && decide ((mkCd L).symbols = []))) := by
  obtain ⟨cs, h, hl⟩ := cntsF_head L 15
  have hw := dsum_wsum L hin
  have hc := dcnt_wsum L hin
  have hcnt := syms_wsum L 15
  rw [← hc] at hcnt
  have hsum := sumF_cnts L 15 (Nat.le_refl _)
  rw [← hw] at hsum
  have hg := cntsF_getD L 15 1 (by omega)
  rw [if_neg (by omega)] at hg
  have hk := right_plain (sy := symsF L 15) (cn := cntsF L 15) (ix := idxF ((1 : Nat) : Int) L 0) (dl := dlast L 0) h hl (cntsF_sum L 15) (cntsF_nonneg L 15) hsum hcnt hg (fun e => one_last L 0 0 e) (fun e => by rw [hw]; exact one_light L (by rw [← hc]; exact e))
  have e0 : (decide ((mkCd L).symbols = [])) = decide (dcnt L = 0) := by
    unfold mkCd
    dsimp only
    rw [← hcnt]
    generalize symsF L 15 = sy
    rw [Bool.eq_iff_iff, decide_eq_true_iff, decide_eq_true_iff]
    cases sy with
    | nil => simp
    | cons a b => simp; omega
  unfold dright
  rw [e0]
  unfold mkCd
  rw [hk]
end Go.Proofs.YtjijkcmbbccfmaaDoor
