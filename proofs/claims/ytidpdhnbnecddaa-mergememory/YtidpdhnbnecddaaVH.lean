/-
  The way's steps are counted; the longest list in common, by trying all. (Pure.)
-/
import Derived.Test.YtidpdhnbnecddaaV8
import Derived.Test.YtidpdhnbnecddaaVT
namespace Go.Proofs.Ytidpdhnbnecddaa
open Go.RowKit

section
variable {α : Type} [DecidableEq α]
def dg (p q : Nat × Nat) : Nat := if q = (p.1 + 1, p.2 + 1) then 0 else 1
/-- How many steps change something. -/
def chg : List (Nat × Nat) → Nat
  | [] => 0
  | [_] => 0
  | p :: q :: r => dg p q + chg (q :: r)
theorem chg_two (p q : Nat × Nat) (r : List (Nat × Nat)) : chg (p :: q :: r) = dg p q + chg (q :: r) := rfl
theorem chg_snoc : ∀ (l : List (Nat × Nat)) (p q : Nat × Nat), chg (l ++ [p, q]) = chg (l ++ [p]) + dg p q
  | [], p, q => by simp [chg]
  | [x], p, q => by simp [chg]
  | x :: y :: l, p, q => by
    have := chg_snoc (y :: l) p q
    simp only [List.cons_append] at this ⊢
    rw [chg_two, chg_two, this]
    omega
/-- A step that may be made. -/
def StOk (a b : List α) (p q : Nat × Nat) : Prop :=
  (q = (p.1 + 1, p.2 + 1) ∧ ∃ s, a[p.1]? = some s ∧ b[p.2]? = some s) ∨ q = (p.1 + 1, p.2) ∨ q = (p.1, p.2 + 1)
theorem wayP_head (us vs : List α) (x y : Nat) : ∃ r, wayP us vs x y = (x, y) :: r := by
  by_cases h : us = [] ∧ vs = []
  · rw [h.1, h.2, wayP_end]; exact ⟨_, rfl⟩
  · rw [wayP_step us vs x y (by rcases Classical.em (us = []) with e | e; exact .inr (fun e2 => h ⟨e, e2⟩); exact .inl e)]
    exact ⟨_, rfl⟩
structure WyOk (a b : List α) (x y : Nat) (W : List (Nat × Nat)) : Prop where
  steps : ∀ i p q, W[i]? = some p → W[i + 1]? = some q → StOk a b p q
  small : ∀ p ∈ W, p.1 ≤ a.length ∧ p.2 ≤ b.length
  last : W.getLast? = some (a.length, b.length)
omit [DecidableEq α] in
theorem WyOk.cons {a b : List α} {x y x' y' : Nat} {W r : List (Nat × Nat)} (h : WyOk a b x' y' W) (hW : W = (x', y') :: r) (hs : StOk a b (x, y) (x', y')) (hx : x ≤ a.length) (hy : y ≤ b.length) : WyOk a b x y ((x, y) :: W) := by
  refine ⟨fun i p q h1 h2 => ?_, fun p hp => ?_, ?_⟩
  · cases i with
    | zero =>
      rw [List.getElem?_cons_zero] at h1
      rw [List.getElem?_cons_succ, hW, List.getElem?_cons_zero] at h2
      injection h1 with h1
      injection h2 with h2
      subst h1 h2
      exact hs
    | succ i => exact h.steps i p q (by simpa using h1) (by simpa using h2)
  · rcases List.mem_cons.1 hp with rfl | hp
    · exact ⟨hx, hy⟩
    · exact h.small p hp
  · rw [hW, List.getLast?_cons_cons, ← hW]
    exact h.last
omit [DecidableEq α] in
theorem drop_get {L : List α} {k : Nat} {s : α} {us : List α} (h : L.drop k = s :: us) : L[k]? = some s ∧ k < L.length ∧ L.drop (k + 1) = us := by
  have hk : k < L.length := by
    rcases Nat.lt_or_ge k L.length with h' | h'
    · exact h'
    · rw [List.drop_of_length_le h'] at h; cases h
  rw [List.drop_eq_getElem_cons hk] at h
  injection h with h1 h2
  exact ⟨by rw [List.getElem?_eq_getElem hk, h1], hk, h2⟩
theorem way_all (a b : List α) : ∀ (n : Nat) (us vs : List α) (x y : Nat), us.length + vs.length ≤ n → a.drop x = us → b.drop y = vs → x ≤ a.length → y ≤ b.length → WyOk a b x y (wayP us vs x y) ∧ chg (wayP us vs x y) = rst us vs ∧ (wayP us vs x y).length ≤ us.length + vs.length + 1 := by
  intro n
  induction n with
  | zero =>
    intro us vs x y hn hu hv hx hy
    have e1 : us = [] := List.eq_nil_of_length_eq_zero (by omega)
    have e2 : vs = [] := List.eq_nil_of_length_eq_zero (by omega)
    subst e1 e2
    have := congrArg List.length hu
    have := congrArg List.length hv
    simp at *
    obtain rfl : x = a.length := by omega
    obtain rfl : y = b.length := by omega
    rw [wayP_end, rst_nil]
    exact ⟨⟨fun i p q h1 h2 => by cases i <;> simp at h2, fun p hp => by simp at hp; rw [hp]; exact ⟨Nat.le_refl _, Nat.le_refl _⟩, rfl⟩, rfl, by simp⟩
  | succ n ih =>
    intro us vs x y hn hu hv hx hy
    cases us with
    | nil =>
      cases vs with
      | nil => exact ih [] [] x y (by simp) hu hv hx hy
      | cons q vs =>
        obtain ⟨g1, g2, g3⟩ := drop_get hv
        obtain ⟨i1, i2, i3⟩ := ih [] vs x (y + 1) (by simp at *; omega) hu g3 hx g2
        obtain ⟨r, hr⟩ := wayP_head [] vs x (y + 1)
        have hw := wayP_step ([] : List α) (q :: vs) x y (.inr (by simp))
        have hw : wayP ([] : List α) (q :: vs) x y = (x, y) :: wayP [] vs x (y + 1) := hw
        rw [hw]
        refine ⟨i1.cons hr (.inr (.inr rfl)) hx hy, ?_, by simp at *; omega⟩
        rw [hr, chg_two, ← hr, i2, rst_nil, rst_nil]
        simp [dg]; omega
    | cons p us =>
      obtain ⟨f1, f2, f3⟩ := drop_get hu
      cases vs with
      | nil =>
        obtain ⟨i1, i2, i3⟩ := ih us [] (x + 1) y (by simp at *; omega) f3 hv f2 hy
        obtain ⟨r, hr⟩ := wayP_head us [] (x + 1) y
        have hw : wayP (p :: us) ([] : List α) x y = (x, y) :: wayP us [] (x + 1) y := wayP_step (p :: us) [] x y (.inl (by simp))
        rw [hw]
        refine ⟨i1.cons hr (.inr (.inl rfl)) hx hy, ?_, by simp at *; omega⟩
        rw [hr, chg_two, ← hr, i2, rst_nil2, rst_nil2]
        simp [dg]; omega
      | cons q vs =>
        obtain ⟨g1, g2, g3⟩ := drop_get hv
        have hw := wayP_step (p :: us) (q :: vs) x y (.inl (by simp))
        rw [stp_cons] at hw
        rw [rst_cons]
        simp only [List.length_cons] at hn
        by_cases hpq : p = q
        · rw [if_pos hpq] at hw
          have hw : wayP (p :: us) (q :: vs) x y = (x, y) :: wayP us vs (x + 1) (y + 1) := hw
          obtain ⟨i1, i2, i3⟩ := ih us vs (x + 1) (y + 1) (by omega) f3 g3 f2 g2
          obtain ⟨r, hr⟩ := wayP_head us vs (x + 1) (y + 1)
          rw [hw, if_pos hpq]
          refine ⟨i1.cons hr (.inl ⟨rfl, p, f1, by rw [hpq]; exact g1⟩) hx hy, ?_, by simp at *; omega⟩
          rw [hr, chg_two, ← hr, i2]
          simp [dg]
        · rw [if_neg hpq] at hw
          rw [if_neg hpq]
          by_cases hle : rst us (q :: vs) ≤ rst (p :: us) vs
          · rw [if_pos hle] at hw
            have hw : wayP (p :: us) (q :: vs) x y = (x, y) :: wayP us (q :: vs) (x + 1) y := hw
            obtain ⟨i1, i2, i3⟩ := ih us (q :: vs) (x + 1) y (by simp; omega) f3 hv f2 hy
            obtain ⟨r, hr⟩ := wayP_head us (q :: vs) (x + 1) y
            rw [hw]
            refine ⟨i1.cons hr (.inr (.inl rfl)) hx hy, ?_, by simp at *; omega⟩
            rw [hr, chg_two, ← hr, i2, Nat.min_eq_left hle]
            simp [dg]
          · rw [if_neg hle] at hw
            have hw : wayP (p :: us) (q :: vs) x y = (x, y) :: wayP (p :: us) vs x (y + 1) := hw
            obtain ⟨i1, i2, i3⟩ := ih (p :: us) vs x (y + 1) (by simp; omega) hu g3 hx g2
            obtain ⟨r, hr⟩ := wayP_head (p :: us) vs x (y + 1)
            rw [hw]
            refine ⟨i1.cons hr (.inr (.inr rfl)) hx hy, ?_, by simp at *; omega⟩
            rw [hr, chg_two, ← hr, i2, Nat.min_eq_right (by omega)]
            simp [dg]
/-- The lines whose bits are set. -/
def selB : Nat → List α → List α
  | _, [] => []
  | p, x :: us => if p % 2 = 1 then x :: selB (p / 2) us else selB (p / 2) us
omit [DecidableEq α] in
theorem selB_sub : ∀ (p : Nat) (a : List α), (selB p a).Sublist a
  | _, [] => List.Sublist.slnil
  | p, x :: us => by
    unfold selB
    split
    · exact (selB_sub (p / 2) us).cons_cons x
    · exact (selB_sub (p / 2) us).cons x
omit [DecidableEq α] in
theorem selB_all {us a : List α} (h : us.Sublist a) : ∃ p, p < 2 ^ a.length ∧ selB p a = us := by
  induction h with
  | slnil => exact ⟨0, by simp, rfl⟩
  | cons x _ ih =>
    obtain ⟨p, hp, he⟩ := ih
    refine ⟨2 * p, by rw [List.length_cons, Nat.pow_succ]; omega, ?_⟩
    unfold selB
    rw [if_neg (by omega), show 2 * p / 2 = p by omega, he]
  | cons_cons x _ ih =>
    obtain ⟨p, hp, he⟩ := ih
    refine ⟨2 * p + 1, by rw [List.length_cons, Nat.pow_succ]; omega, ?_⟩
    unfold selB
    rw [if_pos (by omega), show (2 * p + 1) / 2 = p by omega, he]
omit [DecidableEq α] in
/-- A list that both have in common is a script. -/
theorem ed_sub : ∀ {us a b : List α}, us.Sublist a → us.Sublist b → ∃ n, n + 2 * us.length = a.length + b.length ∧ Ed a b n := by
  intro us a b h1
  induction h1 generalizing b with
  | slnil => intro _; exact ⟨b.length, by simp, ed_right b⟩
  | cons x _ ih =>
    intro h2
    obtain ⟨n, hn, he⟩ := ih h2
    exact ⟨n + 1, by rw [List.length_cons]; omega, .del x he⟩
  | @cons_cons l1 l2 x hs ih =>
    intro h2
    clear hs
    generalize hl : x :: l1 = l at h2
    induction h2 with
    | slnil => cases hl
    | cons y _ ih2 =>
      obtain ⟨n, hn, he⟩ := ih2 hl
      exact ⟨n + 1, by simp only [List.length_cons] at hn ⊢; omega, .ins y he⟩
    | cons_cons y h3 _ =>
      injection hl with e1 e2
      subst e1 e2
      obtain ⟨n, hn, he⟩ := ih h3
      exact ⟨n, by simp only [List.length_cons]; omega, .keep x he⟩
omit [DecidableEq α] in
theorem sub_ed {a b : List α} {n : Nat} (h : Ed a b n) : ∃ us : List α, us.Sublist a ∧ us.Sublist b ∧ n + 2 * us.length = a.length + b.length := by
  induction h with
  | nil => exact ⟨[], List.Sublist.slnil, List.Sublist.slnil, rfl⟩
  | keep x _ ih =>
    obtain ⟨us, h1, h2, h3⟩ := ih
    exact ⟨x :: us, h1.cons_cons x, h2.cons_cons x, by simp only [List.length_cons]; omega⟩
  | del x _ ih =>
    obtain ⟨us, h1, h2, h3⟩ := ih
    exact ⟨us, h1.cons x, h2, by simp only [List.length_cons]; omega⟩
  | ins y _ ih =>
    obtain ⟨us, h1, h2, h3⟩ := ih
    exact ⟨us, h1, h2.cons y, by simp only [List.length_cons]; omega⟩
/-- The first place of a line from a place on; the count of all, if there is none. -/
def adv (s : α) : List α → Nat
  | [] => 0
  | y :: vs => if y = s then 0 else adv s vs + 1
theorem adv_le (s : α) : ∀ vs : List α, adv s vs ≤ vs.length
  | [] => Nat.le_refl _
  | y :: vs => by unfold adv; split; exact Nat.zero_le _; have := adv_le s vs; simp; exact this
/-- What the greedy search answers. -/
def grd : List α → List α → Int → Int
  | [], _, k => k
  | s :: us, vs, k => if adv s vs = vs.length then -100 else grd us (vs.drop (adv s vs + 1)) (k + 1)
theorem sub_adv {s : α} {us : List α} : ∀ {vs : List α}, (s :: us).Sublist vs → adv s vs < vs.length ∧ us.Sublist (vs.drop (adv s vs + 1))
  | [], h => by cases h
  | y :: vs, h => by
    unfold adv
    split
    · rename_i e
      subst e
      refine ⟨by simp, ?_⟩
      cases h with
      | cons _ h => exact (List.sublist_cons_self _ _).trans h
      | cons_cons _ h => exact h
    · rename_i e
      cases h with
      | cons _ h =>
        obtain ⟨h1, h2⟩ := sub_adv h
        exact ⟨by simp; exact h1, h2⟩
      | cons_cons _ h => exact absurd rfl e
theorem adv_sub {s : α} {us : List α} : ∀ {vs : List α}, adv s vs < vs.length → us.Sublist (vs.drop (adv s vs + 1)) → (s :: us).Sublist vs
  | [], h, _ => by simp at h
  | y :: vs, h, h2 => by
    unfold adv at h h2
    split at h
    · rename_i e
      rw [if_pos e] at h2
      subst e
      exact h2.cons_cons y
    · rename_i e
      rw [if_neg e] at h2
      exact (adv_sub (by simpa using h) h2).cons y
theorem grd_yes : ∀ {us vs : List α} {k : Int}, us.Sublist vs → grd us vs k = k + us.length
  | [], _, k, _ => by simp [grd]
  | s :: us, vs, k, h => by
    obtain ⟨h1, h2⟩ := sub_adv h
    unfold grd
    rw [if_neg (by omega), grd_yes h2]
    simp only [List.length_cons]
    omega
theorem grd_no : ∀ {us vs : List α} {k : Int}, ¬ us.Sublist vs → grd us vs k = -100
  | [], _, k, h => absurd (List.nil_sublist _) h
  | s :: us, vs, k, h => by
    unfold grd
    split
    · rfl
    · rename_i e
      have := adv_le s vs
      exact grd_no (fun h2 => h (adv_sub (by omega) h2))
/-- The most that was found among the first picks. -/
def mxB (a b : List α) : Nat → Int
  | 0 => 0
  | p + 1 => max (mxB a b p) (grd (selB p a) b 0)
theorem mxB_succ (a b : List α) (p : Nat) : mxB a b (p + 1) = max (mxB a b p) (grd (selB p a) b 0) := rfl
theorem mxB_mono (a b : List α) : ∀ (n m : Nat), n ≤ m → mxB a b n ≤ mxB a b m := by
  intro n m h
  induction m with
  | zero => rw [show n = 0 by omega]; exact Int.le_refl _
  | succ m ih =>
    by_cases e : n = m + 1
    · rw [e]; exact Int.le_refl _
    · have := ih (by omega)
      rw [mxB_succ]
      omega
theorem mxB_upper (a b : List α) : ∀ n, (rst a b : Int) + 2 * mxB a b n ≤ a.length + b.length ∧ 0 ≤ mxB a b n := by
  intro n
  induction n with
  | zero =>
    have := rst_le _ a b (Nat.le_refl _)
    unfold mxB
    omega
  | succ n ih =>
    rw [mxB_succ]
    rcases Classical.em ((selB n a).Sublist b) with h | h
    · rw [grd_yes h]
      obtain ⟨m, hm, he⟩ := ed_sub (selB_sub n a) h
      have := rst_least he
      omega
    · rw [grd_no h]
      omega
theorem mxB_full (a b : List α) : (rst a b : Int) = a.length + b.length - 2 * mxB a b (2 ^ a.length) := by
  obtain ⟨us, h1, h2, h3⟩ := sub_ed (ed_rst _ a b (Nat.le_refl _))
  obtain ⟨p, hp, hs⟩ := selB_all h1
  have hm := mxB_mono a b (p + 1) (2 ^ a.length) hp
  have hg : (us.length : Int) ≤ mxB a b (p + 1) := by
    rw [mxB_succ, hs, grd_yes h2]
    omega
  have := (mxB_upper a b (2 ^ a.length)).1
  omega
end


theorem OwnW.open {w : World} {base : Nat} {v : Value} {W : List (Nat × Nat)} (h : OwnW w base v W) (h0 : W ≠ []) : ∃ g cap, v = .slice (some ⟨g, 0, none⟩) W.length cap ∧ base ≤ g ∧ ∀ w', Below w.heap.size w w' → ∀ j (q : Nat × Nat), W[j]? = some q → w'.cell? ⟨g, j, none⟩ = some (.complex .f64 (fl q.1) (fl q.2)) := by
  have hlt := h.lt
  rcases h.2 with ⟨rfl, hn⟩ | ⟨g, cap, cur, rfl, hbg, hg, hnc, hcm, hcs, htake⟩
  · exact absurd (List.eq_nil_of_length_eq_zero hn) h0
  · refine ⟨g, cap, rfl, hbg, fun w' hw' j q hq => ?_⟩
    have h2 := World.ownsRow.cells h (g := g) rfl j (pt q.1 q.2) (by unfold ptsV; rw [List.getElem?_map, hq]; rfl)
    rw [add_plain, Nat.zero_add] at h2
    rw [hw'.cell (p := ⟨g, j, none⟩) (hlt g rfl).2]
    exact h2
theorem o11 : (FloatKind.f64.format.order 4607182418800017408 4607182418800017408 == some .eq) = true := by kernel_rfl
theorem o01 : (FloatKind.f64.format.order 0 4607182418800017408 == some .eq) = false := by kernel_rfl
theorem o10 : (FloatKind.f64.format.order 4607182418800017408 0 == some .eq) = false := by kernel_rfl
theorem o00 : (FloatKind.f64.format.order 0 0 == some .eq) = true := by kernel_rfl
theorem chg_take {W : List (Nat × Nat)} {i : Nat} {p q : Nat × Nat} (hp : W[i]? = some p) (hq : W[i + 1]? = some q) : chg (W.take (i + 2)) = chg (W.take (i + 1)) + dg p q := by
  have e1 : W.take (i + 1) = W.take i ++ [p] := by rw [List.take_add_one, hp]; rfl
  have e2 : W.take (i + 2) = W.take i ++ [p, q] := by rw [List.take_add_one, hq, e1]; simp
  rw [e1, e2, chg_snoc]
theorem c_sub {p q : Nat × Nat} (hp1 : p.1 < 1100) (hp2 : p.2 < 1100) {d1 d2 : Nat} (h : (q = (p.1 + 1, p.2 + 1) ∧ d1 = 4607182418800017408 ∧ d2 = 4607182418800017408) ∨ (q = (p.1 + 1, p.2) ∧ d1 = 4607182418800017408 ∧ d2 = 0) ∨ (q = (p.1, p.2 + 1) ∧ d1 = 0 ∧ d2 = 4607182418800017408)) (w : World) :
    (binOp .sub 74 (.complex .f64 (fl q.1) (fl q.2)) (.complex .f64 (fl p.1) (fl p.2))).run Try.prog w = .ok (.complex .f64 d1 d2) w := by
  obtain ⟨-, -, -, a1, a2⟩ := fl_parts hp1
  obtain ⟨-, -, -, b1, b2⟩ := fl_parts hp2
  unfold one64 at a1 b1
  refine run_complex_sum w .sub (.inr rfl) _ _ _ _ _ _ _ _ ?_
  unfold cSumBits
  rcases h with ⟨rfl, rfl, rfl⟩ | ⟨rfl, rfl, rfl⟩ | ⟨rfl, rfl, rfl⟩
  · simp only; rw [a1, b1]; rfl
  · simp only; rw [a1, b2]; rfl
  · simp only; rw [a2, b1]; rfl
set_option maxRecDepth 100000 in
theorem c_int {x : Nat} (hx : x < 1100) (w : World) : (convert 75 3 (.float .f64 (fl x))).run Try.prog w = .ok (.int .i64 x) w :=
  run_convert_float_int (P := Try.prog) w 75 3 .f64 .i64 (fl x) x rfl Try.underlying3 (fl_parts hx).2.2.1
theorem selB_skip {α : Type} {p i : Nat} {s : α} {us L : List α} (h : L.drop i = s :: us) (hb : p / 2 ^ i % 2 = 0) : selB (p / 2 ^ i) (L.drop i) = selB (p / 2 ^ (i + 1)) (L.drop (i + 1)) := by
  have h2 := (drop_get h).2.2
  rw [h2, h, selB, if_neg (by omega), Nat.div_div_eq_div_mul, ← Nat.pow_succ]
theorem selB_take {α : Type} {p i : Nat} {s : α} {us L : List α} (h : L.drop i = s :: us) (hb : p / 2 ^ i % 2 = 1) : selB (p / 2 ^ i) (L.drop i) = s :: selB (p / 2 ^ (i + 1)) (L.drop (i + 1)) := by
  have h2 := (drop_get h).2.2
  rw [h2, h, selB, if_pos hb, Nat.div_div_eq_div_mul, ← Nat.pow_succ]
theorem grd_cons {α : Type} [DecidableEq α] (s : α) (us vs : List α) (k : Int) : grd (s :: us) vs k = if adv s vs = vs.length then -100 else grd us (vs.drop (adv s vs + 1)) (k + 1) := rfl
theorem adv_cons {α : Type} [DecidableEq α] (s y : α) (vs : List α) : adv s (y :: vs) = if y = s then 0 else adv s vs + 1 := rfl
abbrev Pt := Nat × Nat
theorem run_store_c (w : World) (a : Addr) (X Y : Nat) (u : Value) (h : w.cell? a = some u) (hf : w.frozen? a = false) : (store a (.complex .f64 X Y)).run Try.prog w = .ok () (w.setCell a (.complex .f64 X Y)) := by
  rw [run_store Try.prog w a _ _ rfl]
  simp [h, hf]
/-- One step of the way among hunks. -/
def hstep (acc : List (Pt × Pt)) (p q : Pt) : List (Pt × Pt) :=
  if q = (p.1 + 1, p.2 + 1) then acc else match acc.getLast? with
    | some h => if h.2 = p then acc.dropLast ++ [(h.1, q)] else acc ++ [(p, q)]
    | none => [(p, q)]
/-- The hunks of a way. -/
def hksF : List (Pt × Pt) → List Pt → List (Pt × Pt)
  | acc, p :: q :: r => hksF (hstep acc p q) (q :: r)
  | acc, _ => acc
theorem hksF_two (acc : List (Pt × Pt)) (p q : Pt) (r : List Pt) : hksF acc (p :: q :: r) = hksF (hstep acc p q) (q :: r) := by rw [hksF]
theorem hksF_one (acc : List (Pt × Pt)) (p : Pt) : hksF acc [p] = acc := by rw [hksF]; intro _ _ _ h; cases h
theorem hstep_len (acc : List (Pt × Pt)) (p q : Pt) : (hstep acc p q).length ≤ acc.length + 1 := by
  unfold hstep
  split
  · omega
  · split
    · split
      · simp
      · simp
    · simp
def hkC (h : Pt × Pt) : List Value := [pt h.1.1 h.1.2, pt h.2.1 h.2.2]
def hkV (hs : List (Pt × Pt)) : List Value := hs.flatMap hkC
theorem hkV_len (hs : List (Pt × Pt)) : (hkV hs).length = hs.length * 2 := by
  induction hs with
  | nil => rfl
  | cons h hs ih => unfold hkV at ih ⊢; rw [List.flatMap_cons, List.length_append, ih, List.length_cons]; show 2 + _ = _; omega
theorem hkV_snoc (hs : List (Pt × Pt)) (h : Pt × Pt) : hkV (hs ++ [h]) = hkV hs ++ hkC h := by unfold hkV; rw [List.flatMap_append]; simp
theorem hstep_mem {acc : List (Pt × Pt)} {p q : Pt} (hp : p.1 ≤ 1000 ∧ p.2 ≤ 1000) (hq : q.1 ≤ 1000 ∧ q.2 ≤ 1000) (h : ∀ h ∈ acc, h.1.1 ≤ 1000 ∧ h.1.2 ≤ 1000 ∧ h.2.1 ≤ 1000 ∧ h.2.2 ≤ 1000) : ∀ h ∈ hstep acc p q, h.1.1 ≤ 1000 ∧ h.1.2 ≤ 1000 ∧ h.2.1 ≤ 1000 ∧ h.2.2 ≤ 1000 := by
  intro k hk
  unfold hstep at hk
  split at hk
  · exact h k hk
  · split at hk
    · rename_i l hl
      have hm := List.mem_of_getLast? hl
      split at hk
      · rcases List.mem_append.1 hk with hk | hk
        · exact h k ((List.dropLast_sublist acc).subset hk)
        · simp at hk; rw [hk]; exact ⟨(h l hm).1, (h l hm).2.1, hq⟩
      · rcases List.mem_append.1 hk with hk | hk
        · exact h k hk
        · simp at hk; rw [hk]; exact ⟨hp.1, hp.2, hq⟩
    · simp at hk; rw [hk]; exact ⟨hp.1, hp.2, hq⟩
end Go.Proofs.Ytidpdhnbnecddaa
