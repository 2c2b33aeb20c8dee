/-
  The rest of two lists, by recursion; it is the least count of steps. (Pure.)
-/
import Derived.Test.YtjhcpmhjdhmjpaaProg
namespace Go.Proofs.Ytjhcpmhjdhmjpaa

section
variable {α : Type} [DecidableEq α]

/-- The least count of lines that go and come. -/
def rst : List α → List α → Nat
  | [], b => b.length
  | _ :: us, [] => us.length + 1
  | a :: us, b :: bs => if a = b then rst us bs else 1 + min (rst us (b :: bs)) (rst (a :: us) bs)
termination_by a b => a.length + b.length
theorem rst_nil (b : List α) : rst [] b = b.length := by rw [rst]
theorem rst_nil2 (a : List α) : rst a [] = a.length := by cases a <;> rw [rst] <;> rfl
theorem rst_cons (a b : α) (us bs : List α) : rst (a :: us) (b :: bs) = if a = b then rst us bs else 1 + min (rst us (b :: bs)) (rst (a :: us) bs) := by rw [rst]
theorem rst_comm : ∀ (n : Nat) (a b : List α), a.length + b.length ≤ n → rst a b = rst b a := by
  intro n
  induction n with
  | zero =>
    intro a b h
    have ha : a = [] := List.eq_nil_of_length_eq_zero (by omega)
    have hb : b = [] := List.eq_nil_of_length_eq_zero (by omega)
    rw [ha, hb]
  | succ n ih =>
    intro a b h
    cases a with
    | nil => rw [rst_nil, rst_nil2]
    | cons x us =>
      cases b with
      | nil => rw [rst_nil, rst_nil2]
      | cons y bs =>
        simp only [List.length_cons] at h
        rw [rst_cons, rst_cons, ih us bs (by omega), ih us (y :: bs) (by simp only [List.length_cons]; omega), ih (x :: us) bs (by simp only [List.length_cons]; omega)]
        by_cases hxy : x = y
        · rw [if_pos hxy, if_pos hxy.symm]
        · rw [if_neg hxy, if_neg (fun h => hxy h.symm), Nat.min_comm]
theorem rst_symm (a b : List α) : rst a b = rst b a := rst_comm _ a b (Nat.le_refl _)
theorem rst_step : ∀ (n : Nat) (x : α) (us bs : List α), us.length + bs.length ≤ n → rst (x :: us) bs ≤ rst us bs + 1 ∧ rst us bs ≤ rst us (x :: bs) + 1 := by
  intro n
  induction n with
  | zero =>
    intro x us bs h
    have ha : us = [] := List.eq_nil_of_length_eq_zero (by omega)
    have hb : bs = [] := List.eq_nil_of_length_eq_zero (by omega)
    subst ha hb
    simp [rst_nil, rst_nil2]
  | succ n ih =>
    intro x us bs h
    constructor
    · cases bs with
      | nil => simp [rst_nil2]
      | cons b bs' =>
        simp only [List.length_cons] at h
        rw [rst_cons]
        split
        · rename_i hx
          subst hx
          exact (ih x us bs' (by omega)).2
        · omega
    · cases us with
      | nil => simp [rst_nil]; omega
      | cons a us' =>
        simp only [List.length_cons] at h
        rw [rst_cons]
        have hA := (ih a us' bs (by omega)).1
        split
        · exact hA
        · have hC := (ih x us' bs (by omega)).2
          omega
theorem rst_del (x : α) (us bs : List α) : rst (x :: us) bs ≤ rst us bs + 1 := (rst_step _ x us bs (Nat.le_refl _)).1
theorem rst_ins (y : α) (us bs : List α) : rst us (y :: bs) ≤ rst us bs + 1 := by rw [rst_symm, rst_symm us bs]; exact rst_del y bs us
theorem rst_drop (y : α) (us bs : List α) : rst us bs ≤ rst us (y :: bs) + 1 := (rst_step _ y us bs (Nat.le_refl _)).2
theorem rst_self (a : List α) : rst a a = 0 := by
  induction a with
  | nil => rw [rst_nil]; rfl
  | cons x us ih => rw [rst_cons, if_pos rfl, ih]
theorem rst_zero : ∀ (a b : List α), rst a b = 0 → a = b
  | [], b, h => by rw [rst_nil] at h; exact (List.eq_nil_of_length_eq_zero h).symm
  | x :: us, [], h => by rw [rst_nil2] at h; simp at h
  | x :: us, y :: bs, h => by
    rw [rst_cons] at h
    split at h
    · rename_i hx; rw [hx, rst_zero us bs h]
    · omega
theorem rst_le : ∀ (n : Nat) (a b : List α), a.length + b.length ≤ n → rst a b ≤ a.length + b.length := by
  intro n
  induction n with
  | zero =>
    intro a b h
    have ha : a = [] := List.eq_nil_of_length_eq_zero (by omega)
    rw [ha, rst_nil]
    simp
  | succ n ih =>
    intro a b h
    cases a with
    | nil => rw [rst_nil]; simp
    | cons x us =>
      cases b with
      | nil => rw [rst_nil2]; simp
      | cons y bs =>
        simp only [List.length_cons] at h ⊢
        rw [rst_cons]
        have h1 := ih us bs (by omega)
        have h2 := ih us (y :: bs) (by simp only [List.length_cons]; omega)
        simp only [List.length_cons] at h2
        split <;> omega
/-- A script that leads from one list to another, with so many steps by 1 and by i. -/
inductive Ed : List α → List α → Nat → Prop
  | nil : Ed [] [] 0
  | keep {us bs : List α} {n : Nat} (x : α) : Ed us bs n → Ed (x :: us) (x :: bs) n
  | del {us bs : List α} {n : Nat} (x : α) : Ed us bs n → Ed (x :: us) bs (n + 1)
  | ins {us bs : List α} {n : Nat} (y : α) : Ed us bs n → Ed us (y :: bs) (n + 1)
omit [DecidableEq α] in
theorem ed_left : ∀ a : List α, Ed a [] a.length
  | [] => .nil
  | x :: us => .del x (ed_left us)
omit [DecidableEq α] in
theorem ed_right : ∀ a : List α, Ed [] a a.length
  | [] => .nil
  | x :: us => .ins x (ed_right us)
theorem ed_rst : ∀ (n : Nat) (a b : List α), a.length + b.length ≤ n → Ed a b (rst a b) := by
  intro n
  induction n with
  | zero =>
    intro a b h
    have ha : a = [] := List.eq_nil_of_length_eq_zero (by omega)
    have hb : b = [] := List.eq_nil_of_length_eq_zero (by omega)
    rw [ha, hb, rst_nil]
    exact .nil
  | succ n ih =>
    intro a b h
    cases a with
    | nil => rw [rst_nil]; exact ed_right b
    | cons x us =>
      cases b with
      | nil => rw [rst_nil2]; exact ed_left _
      | cons y bs =>
        simp only [List.length_cons] at h
        rw [rst_cons]
        split
        · rename_i hx
          subst hx
          exact .keep x (ih us bs (by omega))
        · have h2 := ih us (y :: bs) (by simp only [List.length_cons]; omega)
          have h3 := ih (x :: us) bs (by simp only [List.length_cons]; omega)
          rcases Nat.le_total (rst us (y :: bs)) (rst (x :: us) bs) with hl | hl
          · rw [Nat.min_eq_left hl, Nat.add_comm]
            exact .del x h2
          · rw [Nat.min_eq_right hl, Nat.add_comm]
            exact .ins y h3
theorem rst_least {a b : List α} {n : Nat} (h : Ed a b n) : rst a b ≤ n := by
  induction h with
  | nil => rw [rst_nil]; simp
  | keep x _ ih => rw [rst_cons, if_pos rfl]; exact ih
  | del x _ ih => exact Nat.le_trans (rst_del _ _ _) (by omega)
  | ins y _ ih => exact Nat.le_trans (rst_ins _ _ _) (by omega)
omit [DecidableEq α] in
theorem ed_trans : ∀ (t : Nat) {a b c : List α} {n m : Nat}, a.length + b.length + c.length ≤ t → Ed a b n → Ed b c m → ∃ k, k ≤ n + m ∧ Ed a c k := by
  intro t
  induction t with
  | zero =>
    intro a b c n m h _ _
    have ha : a = [] := List.eq_nil_of_length_eq_zero (by omega)
    have hc : c = [] := List.eq_nil_of_length_eq_zero (by omega)
    rw [ha, hc]
    exact ⟨0, Nat.zero_le _, .nil⟩
  | succ t ih =>
    intro a b c n m h h1 h2
    cases h2 with
    | ins y h2 =>
      simp only [List.length_cons] at h
      obtain ⟨k, hk, he⟩ := ih (by omega) h1 h2
      exact ⟨k + 1, by omega, .ins y he⟩
    | nil => exact ⟨n, by omega, h1⟩
    | keep x h2 =>
      cases h1 with
      | keep _ h1 =>
        simp only [List.length_cons] at h
        obtain ⟨k, hk, he⟩ := ih (by omega) h1 h2
        exact ⟨k, hk, .keep x he⟩
      | del z h1 =>
        simp only [List.length_cons] at h
        obtain ⟨k, hk, he⟩ := ih (by simp only [List.length_cons]; omega) h1 (.keep x h2)
        exact ⟨k + 1, by omega, .del z he⟩
      | ins _ h1 =>
        simp only [List.length_cons] at h
        obtain ⟨k, hk, he⟩ := ih (by omega) h1 h2
        exact ⟨k + 1, by omega, .ins x he⟩
    | del x h2 =>
      cases h1 with
      | keep _ h1 =>
        simp only [List.length_cons] at h
        obtain ⟨k, hk, he⟩ := ih (by omega) h1 h2
        exact ⟨k + 1, by omega, .del x he⟩
      | del z h1 =>
        simp only [List.length_cons] at h
        obtain ⟨k, hk, he⟩ := ih (by simp only [List.length_cons]; omega) h1 (.del x h2)
        exact ⟨k + 1, by omega, .del z he⟩
      | ins _ h1 =>
        simp only [List.length_cons] at h
        obtain ⟨k, hk, he⟩ := ih (by omega) h1 h2
        exact ⟨k, by omega, he⟩
theorem rst_tri (a b c : List α) : rst a c ≤ rst a b + rst b c := by
  obtain ⟨k, hk, he⟩ := ed_trans _ (Nat.le_refl _) (ed_rst _ a b (Nat.le_refl _)) (ed_rst _ b c (Nat.le_refl _))
  exact Nat.le_trans (rst_least he) hk
end
end Go.Proofs.Ytjhcpmhjdhmjpaa
