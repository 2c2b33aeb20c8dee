/-
  The plain mathematics of codes that are made of lengths.
-/
import Derived.Test.YthbcloplhjmkkaaDoorM
namespace Go.Proofs.YthbcloplhjmkkaaDoor

def idxU (L : List Int) (n : Nat) : List Int := if n = 0 then [] else idxF n L 0
def symsU (L : List Int) : Nat → List Int
  | 0 => []
  | n + 1 => symsU L n ++ idxU L n
def cntsU (L : List Int) : Nat → List Int
  | 0 => []
  | n + 1 => cntsU L n ++ [((idxU L n).length : Int)]
theorem symsU_eq (L : List Int) : ∀ n, symsU L (n + 1) = symsF L n
  | 0 => rfl
  | n + 1 => by
    rw [symsU, symsU_eq L n, symsF, idxU, if_neg (by omega)]
    rfl
theorem cntsU_eq (L : List Int) : ∀ n, cntsU L (n + 1) = cntsF L n
  | 0 => rfl
  | n + 1 => by
    rw [cntsU, cntsU_eq L n, cntsF, idxU, if_neg (by omega)]
    rfl
theorem mkCd_cu (L : List Int) : (mkCd L).counts = trimF (cntsU L 16) := by
  have h := cntsU_eq L 15
  simp only [Nat.reduceAdd] at h
  unfold mkCd
  rw [h]
theorem mkCd_sy (L : List Int) : (mkCd L).symbols = symsU L 16 := by
  have h := symsU_eq L 15
  simp only [Nat.reduceAdd] at h
  unfold mkCd
  rw [h]
theorem cntsU_length (L : List Int) : ∀ n, (cntsU L n).length = n
  | 0 => rfl
  | n + 1 => by simp [cntsU, cntsU_length L n]

theorem trimF_step (l : List Int) (h1 : 1 < l.length) (h2 : l.getD (l.length - 1) 0 = 0) : trimF l = trimF (l.take (l.length - 1)) := by
  rcases List.eq_nil_or_concat l with rfl | ⟨i, x, rfl⟩
  · simp at h1
  simp only [List.concat_eq_append, List.length_append, List.length_singleton, Nat.add_sub_cancel] at h1 h2 ⊢
  have hx : x = 0 := by simpa [List.getD] using h2
  subst hx
  rw [List.take_left]
  unfold trimF
  rw [List.reverse_append, List.reverse_singleton, List.singleton_append]
  cases hr : i.reverse with
  | nil =>
    have : i.length = 0 := by rw [← List.length_reverse, hr]; rfl
    omega
  | cons y ys => rw [trimR, if_pos rfl]
theorem trimF_stop (l : List Int) (h : l.length ≤ 1 ∨ l.getD (l.length - 1) 0 ≠ 0) : trimF l = l := by
  rcases List.eq_nil_or_concat l with rfl | ⟨i, x, rfl⟩
  · rfl
  · simp only [List.concat_eq_append, List.length_append, List.length_singleton, Nat.add_sub_cancel] at h ⊢
    unfold trimF
    rw [List.reverse_append, List.reverse_singleton, List.singleton_append]
    cases hr : i.reverse with
    | nil =>
      have hi : i = [] := by simpa using hr
      subst hi
      rfl
    | cons y ys =>
      have hl : i.length ≠ 0 := by rw [← List.length_reverse, hr]; simp
      have hx : x ≠ 0 := by
        rcases h with h | h
        · omega
        · simpa [List.getD] using h
      rw [trimR, if_neg hx, ← hr]
      simp

theorem idxF_length (n : Int) : ∀ (L : List Int) (i : Int), (idxF n L i).length ≤ L.length
  | [], _ => by simp [idxF]
  | x :: L, i => by
    have := idxF_length n L (i + 1)
    unfold idxF
    split <;> simp <;> omega
theorem idxF_in (n : Int) : ∀ (L : List Int) (i : Int), ∀ y ∈ idxF n L i, i ≤ y ∧ y < i + L.length
  | [], _, y, h => by simp [idxF] at h
  | x :: L, i, y, h => by
    have ih := idxF_in n L (i + 1) y
    simp only [List.length_cons]
    unfold idxF at h
    split at h
    · rcases List.mem_cons.1 h with rfl | h
      · omega
      · have := ih h
        omega
    · have := ih h
      omega
/-- All symbols that have a length, counted. -/
theorem sum_idx (L : List Int) : ∀ (n : Nat) , (symsF L n).length = ((cntsF L n).tail).sum
  | 0 => by simp [symsF, cntsF]
  | n + 1 => by
    have ih := sum_idx L n
    have hne : cntsF L n ≠ [] := by
      cases n <;> simp [cntsF]
    rw [symsF, cntsF, List.tail_append_of_ne_nil hne, List.sum_append, ← ih, List.length_append]
    simp
theorem symsF_cons (x : Int) (L : List Int) : ∀ n, (symsF (x :: L) n).length ≤ (symsF L n).length + if 0 < x ∧ x ≤ n then 1 else 0 := by
  have e : ∀ (n : Int) (L : List Int) (i j : Int), (idxF n L i).length = (idxF n L j).length := by
    intro n L
    induction L with
    | nil => intro i j; rfl
    | cons y L ih =>
      intro i j
      unfold idxF
      split
      · simp [ih (i + 1) (j + 1)]
      · exact ih _ _
  intro n
  induction n with
  | zero => simp [symsF]
  | succ n ih =>
    simp only [symsF, List.length_append]
    have h1 := e ((n : Int) + 1) L (0 + 1) 0
    by_cases hx : x = (n : Int) + 1
    · have : (idxF ((n : Int) + 1) (x :: L) 0).length = (idxF ((n : Int) + 1) L 0).length + 1 := by
        rw [idxF, if_pos hx, List.length_cons, h1]
      rw [if_neg (by omega)] at ih
      rw [if_pos (by omega)]
      omega
    · have : (idxF ((n : Int) + 1) (x :: L) 0).length = (idxF ((n : Int) + 1) L 0).length := by
        rw [idxF, if_neg hx, h1]
      split at ih <;> split <;> omega
theorem symsF_length (n : Nat) : ∀ (L : List Int), (symsF L n).length ≤ L.length
  | [] => by
    induction n with
    | zero => simp [symsF]
    | succ n ih => simp only [symsF, List.length_append, idxF, List.length_nil] at *; omega
  | x :: L => by
    have h := symsF_cons x L n
    have ih := symsF_length n L
    simp only [List.length_cons]
    split at h <;> omega
theorem symsF_in (L : List Int) : ∀ (n : Nat), ∀ y ∈ symsF L n, 0 ≤ y ∧ y < L.length
  | 0, y, h => by simp [symsF] at h
  | n + 1, y, h => by
    rw [symsF] at h
    rcases List.mem_append.1 h with h | h
    · exact symsF_in L n y h
    · have := idxF_in _ L 0 y h
      omega
theorem cntsF_length (L : List Int) (n : Nat) : (cntsF L n).length = n + 1 := by rw [← cntsU_eq, cntsU_length]
theorem cntsF_in (L : List Int) : ∀ (n : Nat), ∀ y ∈ cntsF L n, 0 ≤ y ∧ y ≤ L.length
  | 0, y, h => by simp [cntsF] at h; omega
  | n + 1, y, h => by
    rw [cntsF] at h
    rcases List.mem_append.1 h with h | h
    · exact cntsF_in L n y h
    · have := idxF_length ((n : Int) + 1) L 0
      simp at h
      omega
/-- What the end loses is 0. -/
theorem trimR_spec : ∀ (l : List Int), l ≠ [] → ∃ z : Nat, l = List.replicate z 0 ++ trimR l ∧ trimR l ≠ []
  | [], h => absurd rfl h
  | [x], _ => ⟨0, by simp [trimR], by simp [trimR]⟩
  | x :: y :: ys, _ => by
    obtain ⟨z, h1, h2⟩ := trimR_spec (y :: ys) (by simp)
    by_cases hx : x = 0
    · subst hx
      refine ⟨z + 1, ?_, ?_⟩
      · rw [trimR, if_pos rfl, List.replicate_succ, List.cons_append, ← h1]
      · rw [trimR, if_pos rfl]; exact h2
    · exact ⟨0, by rw [trimR, if_neg hx]; simp, by rw [trimR, if_neg hx]; simp⟩
theorem trimF_spec (l : List Int) (h : l ≠ []) : ∃ z : Nat, l = trimF l ++ List.replicate z 0 ∧ trimF l ≠ [] := by
  obtain ⟨z, h1, h2⟩ := trimR_spec l.reverse (by simpa using h)
  refine ⟨z, ?_, by unfold trimF; simpa using h2⟩
  have := congrArg List.reverse h1
  rw [List.reverse_reverse, List.reverse_append, List.reverse_replicate] at this
  exact this
theorem mkCd_few (L : List Int) : (mkCd L).symbols.length ≤ L.length := symsF_length 15 L
theorem sum_rep0 : ∀ z : Nat, (List.replicate z (0 : Int)).sum = 0
  | 0 => rfl
  | z + 1 => by rw [List.replicate_succ, List.sum_cons, sum_rep0 z]; rfl
theorem mkCd_counts (L : List Int) : 1 ≤ (mkCd L).counts.length ∧ (mkCd L).counts.length ≤ 16 ∧ (∀ y ∈ (mkCd L).counts, 0 ≤ y ∧ y ≤ L.length) ∧ (mkCd L).counts.tail.sum = (mkCd L).symbols.length := by
  have hl := cntsF_length L 15
  obtain ⟨z, h1, h2⟩ := trimF_spec (cntsF L 15) (by intro e; rw [e] at hl; simp at hl)
  unfold mkCd
  dsimp only
  have hin := cntsF_in L 15
  have hs := sum_idx L 15
  generalize cntsF L 15 = C at *
  generalize trimF C = T at *
  have hl2 := congrArg List.length h1
  simp only [List.length_append, List.length_replicate] at hl2
  refine ⟨by cases T <;> simp at *, by omega, fun y hy => hin y (by rw [h1]; simp [hy]), ?_⟩
  rw [h1, List.tail_append_of_ne_nil h2, List.sum_append, sum_rep0, Int.add_zero] at hs
  omega
end Go.Proofs.YthbcloplhjmkkaaDoor
