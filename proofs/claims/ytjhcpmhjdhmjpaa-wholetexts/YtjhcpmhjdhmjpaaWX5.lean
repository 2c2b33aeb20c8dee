/-
  Walks: the law WholeTexts.
-/
import Derived.Test.YtjhcpmhjdhmjpaaWX4
namespace Go.Proofs.Ytjhcpmhjdhmjpaa
open Go.RowKit Go.Shelf

theorem wt_size {a : List ByteArray} {xs : List Int} (h : a = lnS xs) : ∀ s ∈ a, s.size ≤ xs.length := by
  subst h
  intro s hs
  obtain ⟨l, hl, rfl⟩ := List.mem_map.1 hs
  rw [strOfNums_size]
  obtain ⟨i, hi, e⟩ := List.mem_iff_getElem.1 hl
  have := part_le (L := lnsF xs) (i := i) (l := l) (by rw [List.getElem?_eq_getElem hi, e])
  rw [lnsF_join] at this
  exact this
theorem tlW_len (a b : List ByteArray) : ∀ (r : List Pt) (p : Pt), (tlW a b (p :: r)).length = r.length
  | [], p => by rw [tlW_one]; rfl
  | q :: r, p => by rw [tlW, List.length_cons, tlW_len a b r q, List.length_cons]
theorem flB_len : ∀ L : List ByteArray, ∀ n, (∀ s ∈ L, s.size ≤ n) → (flB L).length ≤ L.length * n
  | [], n, _ => by simp [flB]
  | s :: L, n, h => by
    have h1 := flB_len L n (fun t ht => h t (List.mem_cons_of_mem _ ht))
    have h2 := h s List.mem_cons_self
    rw [Lib.size_eq] at h2
    have e : flB (s :: L) = s.data.toList ++ flB L := rfl
    rw [e, List.length_append, List.length_cons, Nat.add_mul, Nat.one_mul]
    omega
theorem told_len : ∀ L : List (List UInt8), (∀ l ∈ L, TlOk l) → L.flatten.length ≤ L.length + (sdA L).length + (sdB L).length
  | [], _ => by simp
  | l :: L, h => by
    have h1 := told_len L (fun t ht => h t (List.mem_cons_of_mem _ ht))
    obtain ⟨sg, s, rfl, hsg, -⟩ := h l List.mem_cons_self
    have e1 : sdA ((sg :: s) :: L) = adA (sg :: s) ++ sdA L := rfl
    have e2 : sdB ((sg :: s) :: L) = adB (sg :: s) ++ sdB L := rfl
    rw [e1, e2, List.flatten_cons, List.length_append, List.length_append, List.length_append, List.length_cons, List.length_cons]
    rcases hsg with rfl | rfl | rfl
    · have a1 : adA (32 :: s) = s := rfl
      rw [a1]; omega
    · have a1 : adA (45 :: s) = s := rfl
      rw [a1]; omega
    · have a1 : adB (43 :: s) = s := rfl
      rw [a1]; omega
/-- What is told of two texts whose lines all end. -/
theorem told_texts {xs ys : List Int} (hx : AllB xs) (hy : AllB ys) (ex : xs = [] ∨ xs.getLast? = some 10) (ey : ys = [] ∨ ys.getLast? = some 10) (lx : xs.length ≤ 1500) (ly : ys.length ≤ 1500) :
    ∃ LL, txP (lnS xs) (lnS ys) (wayP (lnS xs) (lnS ys) 0 0) = LL.flatten ∧ (∀ l ∈ LL, TlOk l) ∧ mkB (sdA LL) = strOfNums xs ∧ mkB (sdB LL) = strOfNums ys ∧ sdC LL = rst (lnS xs) (lnS ys) ∧ LL.flatten.length ≤ 100000 ∧ LL.length ≤ 100000 := by
  obtain ⟨h1, h2, h3, h4⟩ := told_all (lnS xs) (lnS ys) (lnS_cl hx ex) (lnS_cl hy ey) (lnS xs) (lnS ys) 0 0 rfl rfl
  obtain ⟨r, hr⟩ := wayP_head (lnS xs) (lnS ys) 0 0
  refine ⟨_, ?_, h1, by rw [h2]; exact flB_lnS xs, by rw [h3]; exact flB_lnS ys, h4, ?_, ?_⟩
  · rw [hr, txP_flat]
  · have h5 := told_len _ h1
    have l1 := lnS_len xs
    have l2 := lnS_len ys
    have h6 : (tlW (lnS xs) (lnS ys) (wayP (lnS xs) (lnS ys) 0 0)).length ≤ 3000 := by
      obtain ⟨-, -, h7⟩ := way_all (lnS xs) (lnS ys) _ (lnS xs) (lnS ys) 0 0 (Nat.le_refl _) rfl rfl (Nat.zero_le _) (Nat.zero_le _)
      rw [hr] at h7 ⊢
      rw [tlW_len]
      rw [List.length_cons] at h7
      omega
    have h8 : (flB (lnS xs)).length = xs.length := by
      have := congrArg ByteArray.size (flB_lnS xs)
      rw [strOfNums_size] at this
      rw [← this]
      simp [ByteArray.size]
    have h9 : (flB (lnS ys)).length = ys.length := by
      have := congrArg ByteArray.size (flB_lnS ys)
      rw [strOfNums_size] at this
      rw [← this]
      simp [ByteArray.size]
    rw [h2, h3] at h5
    omega
  · obtain ⟨-, -, h7⟩ := way_all (lnS xs) (lnS ys) _ (lnS xs) (lnS ys) 0 0 (Nat.le_refl _) rfl rfl (Nat.zero_le _) (Nat.zero_le _)
    have l1 := lnS_len xs
    have l2 := lnS_len ys
    rw [hr] at h7 ⊢
    rw [tlW_len]
    rw [List.length_cons] at h7
    omega
end Go.Proofs.Ytjhcpmhjdhmjpaa
