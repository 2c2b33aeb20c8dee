/-
  The rest of two lists, by recursion; it is the least count of steps. (Pure.)
-/
import Derived.Test.YtidpdhnbnecddaaProg
import Derived.Test.YtidpdhnbnecddaaV3
namespace Go.Proofs.Ytidpdhnbnecddaa

section
variable {α : Type} [DecidableEq α]

/-- The least count of lines that go and come. -/
def rst : List α → List α → Nat
  | [], b => b.length
  | _ :: us, [] => us.length + 1
  | a :: us, b :: bs => if a = b then rst us bs else 1 + min (rst us (b :: bs)) (rst (a :: us) bs)
termination_by a b => a.length + b.length
theorem rst_nil (b : List α) : rst [] b = b.length := by rw [rst]
theorem rst_nil2 (a : List α) : rst a [] = a.length := by cases a <;> rw [rst] <;> rfl
theorem rst_cons (a b : α) (us bs : List α) : rst (a :: us) (b :: bs) = if a = b then rst us bs else 1 + min (rst us (b :: bs)) (rst (a :: us) bs) := by rw [rst]
theorem rst_comm : ∀ (n : Nat) (a b : List α), a.length + b.length ≤ n → rst a b = rst b a := by
  intro n
  induction n with
  | zero =>
    intro a b h
    have ha : a = [] := List.eq_nil_of_length_eq_zero (by omega)
    have hb : b = [] := List.eq_nil_of_length_eq_zero (by omega)
    rw [ha, hb]
  | succ n ih =>
    intro a b h
    cases a with
    | nil => rw [rst_nil, rst_nil2]
    | cons x us =>
      cases b with
      | nil => rw [rst_nil, rst_nil2]
      | cons y bs =>
        simp only [List.length_cons] at h
        rw [rst_cons, rst_cons, ih us bs (by omega), ih us (y :: bs) (by simp only [List.length_cons]; omega), ih (x :: us) bs (by simp only [List.length_cons]; omega)]
        by_cases hxy : x = y
        · rw [if_pos hxy, if_pos hxy.symm]
        · rw [if_neg hxy, if_neg (fun h => hxy h.symm), Nat.min_comm]
theorem rst_symm (a b : List α) : rst a b = rst b a := rst_comm _ a b (Nat.le_refl _)
theorem rst_step : ∀ (n : Nat) (x : α) (us bs : List α), us.length + bs.length ≤ n → rst (x :: us) bs ≤ rst us bs + 1 ∧ rst us bs ≤ rst us (x :: bs) + 1 := by
  intro n
  induction n with
  | zero =>
    intro x us bs h
    have ha : us = [] := List.eq_nil_of_length_eq_zero (by omega)
    have hb : bs = [] := List.eq_nil_of_length_eq_zero (by omega)
    subst ha hb
    simp [rst_nil, rst_nil2]
  | succ n ih =>
    intro x us bs h
    constructor
    · cases bs with
      | nil => simp [rst_nil2]
      | cons b bs' =>
        simp only [List.length_cons] at h
        rw [rst_cons]
        split
        · rename_i hx
          subst hx
          exact (ih x us bs' (by omega)).2
        · omega
    · cases us with
      | nil => simp [rst_nil]; omega
      | cons a us' =>
        simp only [List.length_cons] at h
        rw [rst_cons]
        have hA := (ih a us' bs (by omega)).1
        split
        · exact hA
        · have hC := (ih x us' bs (by omega)).2
          omega
theorem rst_del (x : α) (us bs : List α) : rst (x :: us) bs ≤ rst us bs + 1 := (rst_step _ x us bs (Nat.le_refl _)).1
theorem rst_ins (y : α) (us bs : List α) : rst us (y :: bs) ≤ rst us bs + 1 := by rw [rst_symm, rst_symm us bs]; exact rst_del y bs us
theorem rst_drop (y : α) (us bs : List α) : rst us bs ≤ rst us (y :: bs) + 1 := (rst_step _ y us bs (Nat.le_refl _)).2
theorem rst_self (a : List α) : rst a a = 0 := by
  induction a with
  | nil => rw [rst_nil]; rfl
  | cons x us ih => rw [rst_cons, if_pos rfl, ih]
theorem rst_zero : ∀ (a b : List α), rst a b = 0 → a = b
  | [], b, h => by rw [rst_nil] at h; exact (List.eq_nil_of_length_eq_zero h).symm
  | x :: us, [], h => by rw [rst_nil2] at h; simp at h
  | x :: us, y :: bs, h => by
    rw [rst_cons] at h
    split at h
    · rename_i hx; rw [hx, rst_zero us bs h]
    · omega
theorem rst_le : ∀ (n : Nat) (a b : List α), a.length + b.length ≤ n → rst a b ≤ a.length + b.length := by
  intro n
  induction n with
  | zero =>
    intro a b h
    have ha : a = [] := List.eq_nil_of_length_eq_zero (by omega)
    rw [ha, rst_nil]
    simp
  | succ n ih =>
    intro a b h
    cases a with
    | nil => rw [rst_nil]; simp
    | cons x us =>
      cases b with
      | nil => rw [rst_nil2]; simp
      | cons y bs =>
        simp only [List.length_cons] at h ⊢
        rw [rst_cons]
        have h1 := ih us bs (by omega)
        have h2 := ih us (y :: bs) (by simp only [List.length_cons]; omega)
        simp only [List.length_cons] at h2
        split <;> omega
/-- A script that leads from one list to another, with so many steps by 1 and by i. -/
inductive Ed : List α → List α → Nat → Prop
  | nil : Ed [] [] 0
  | keep {us bs : List α} {n : Nat} (x : α) : Ed us bs n → Ed (x :: us) (x :: bs) n
  | del {us bs : List α} {n : Nat} (x : α) : Ed us bs n → Ed (x :: us) bs (n + 1)
  | ins {us bs : List α} {n : Nat} (y : α) : Ed us bs n → Ed us (y :: bs) (n + 1)
omit [DecidableEq α] in
theorem ed_left : ∀ a : List α, Ed a [] a.length
  | [] => .nil
  | x :: us => .del x (ed_left us)
omit [DecidableEq α] in
theorem ed_right : ∀ a : List α, Ed [] a a.length
  | [] => .nil
  | x :: us => .ins x (ed_right us)
theorem ed_rst : ∀ (n : Nat) (a b : List α), a.length + b.length ≤ n → Ed a b (rst a b) := by
  intro n
  induction n with
  | zero =>
    intro a b h
    have ha : a = [] := List.eq_nil_of_length_eq_zero (by omega)
    have hb : b = [] := List.eq_nil_of_length_eq_zero (by omega)
    rw [ha, hb, rst_nil]
    exact .nil
  | succ n ih =>
    intro a b h
    cases a with
    | nil => rw [rst_nil]; exact ed_right b
    | cons x us =>
      cases b with
      | nil => rw [rst_nil2]; exact ed_left _
      | cons y bs =>
        simp only [List.length_cons] at h
        rw [rst_cons]
        split
        · rename_i hx
          subst hx
          exact .keep x (ih us bs (by omega))
        · have h2 := ih us (y :: bs) (by simp only [List.length_cons]; omega)
          have h3 := ih (x :: us) bs (by simp only [List.length_cons]; omega)
          rcases Nat.le_total (rst us (y :: bs)) (rst (x :: us) bs) with hl | hl
          · rw [Nat.min_eq_left hl, Nat.add_comm]
            exact .del x h2
          · rw [Nat.min_eq_right hl, Nat.add_comm]
            exact .ins y h3
theorem rst_least {a b : List α} {n : Nat} (h : Ed a b n) : rst a b ≤ n := by
  induction h with
  | nil => rw [rst_nil]; simp
  | keep x _ ih => rw [rst_cons, if_pos rfl]; exact ih
  | del x _ ih => exact Nat.le_trans (rst_del _ _ _) (by omega)
  | ins y _ ih => exact Nat.le_trans (rst_ins _ _ _) (by omega)
omit [DecidableEq α] in
theorem ed_trans : ∀ (t : Nat) {a b c : List α} {n m : Nat}, a.length + b.length + c.length ≤ t → Ed a b n → Ed b c m → ∃ k, k ≤ n + m ∧ Ed a c k := by
  intro t
  induction t with
  | zero =>
    intro a b c n m h _ _
    have ha : a = [] := List.eq_nil_of_length_eq_zero (by omega)
    have hc : c = [] := List.eq_nil_of_length_eq_zero (by omega)
    rw [ha, hc]
    exact ⟨0, Nat.zero_le _, .nil⟩
  | succ t ih =>
    intro a b c n m h h1 h2
    cases h2 with
    | ins y h2 =>
      simp only [List.length_cons] at h
      obtain ⟨k, hk, he⟩ := ih (by omega) h1 h2
      exact ⟨k + 1, by omega, .ins y he⟩
    | nil => exact ⟨n, by omega, h1⟩
    | keep x h2 =>
      cases h1 with
      | keep _ h1 =>
        simp only [List.length_cons] at h
        obtain ⟨k, hk, he⟩ := ih (by omega) h1 h2
        exact ⟨k, hk, .keep x he⟩
      | del z h1 =>
        simp only [List.length_cons] at h
        obtain ⟨k, hk, he⟩ := ih (by simp only [List.length_cons]; omega) h1 (.keep x h2)
        exact ⟨k + 1, by omega, .del z he⟩
      | ins _ h1 =>
        simp only [List.length_cons] at h
        obtain ⟨k, hk, he⟩ := ih (by omega) h1 h2
        exact ⟨k + 1, by omega, .ins x he⟩
    | del x h2 =>
      cases h1 with
      | keep _ h1 =>
        simp only [List.length_cons] at h
        obtain ⟨k, hk, he⟩ := ih (by omega) h1 h2
        exact ⟨k + 1, by omega, .del x he⟩
      | del z h1 =>
        simp only [List.length_cons] at h
        obtain ⟨k, hk, he⟩ := ih (by simp only [List.length_cons]; omega) h1 (.del x h2)
        exact ⟨k + 1, by omega, .del z he⟩
      | ins _ h1 =>
        simp only [List.length_cons] at h
        obtain ⟨k, hk, he⟩ := ih (by omega) h1 h2
        exact ⟨k, by omega, he⟩
theorem rst_tri (a b c : List α) : rst a c ≤ rst a b + rst b c := by
  obtain ⟨k, hk, he⟩ := ed_trans _ (Nat.le_refl _) (ed_rst _ a b (Nat.le_refl _)) (ed_rst _ b c (Nat.le_refl _))
  exact Nat.le_trans (rst_least he) hk
end

open Go.RowKit Go.WideMaps

theorem rst_map {α β : Type} [DecidableEq α] [DecidableEq β] (f : α → β) : ∀ (n : Nat) (a b : List α), a.length + b.length ≤ n → (∀ x ∈ a, ∀ y ∈ b, f x = f y → x = y) → rst (a.map f) (b.map f) = rst a b := by
  intro n
  induction n with
  | zero =>
    intro a b h _
    have ha : a = [] := List.eq_nil_of_length_eq_zero (by omega)
    rw [ha, List.map_nil, rst_nil, rst_nil, List.length_map]
  | succ n ih =>
    intro a b h hf
    cases a with
    | nil => rw [List.map_nil, rst_nil, rst_nil, List.length_map]
    | cons x us =>
      cases b with
      | nil => rw [List.map_nil, rst_nil2, rst_nil2, List.length_map]
      | cons y vs =>
        simp only [List.length_cons] at h
        have h1 := ih us vs (by omega) (fun p hp q hq => hf p (List.mem_cons_of_mem _ hp) q (List.mem_cons_of_mem _ hq))
        have h2 := ih us (y :: vs) (by simp only [List.length_cons]; omega) (fun p hp q hq => hf p (List.mem_cons_of_mem _ hp) q hq)
        have h3 := ih (x :: us) vs (by simp only [List.length_cons]; omega) (fun p hp q hq => hf p hp q (List.mem_cons_of_mem _ hq))
        rw [List.map_cons] at h2 h3
        rw [List.map_cons, List.map_cons, rst_cons, rst_cons, h1, h2, h3]
        by_cases e : x = y
        · rw [if_pos e, if_pos (by rw [e])]
        · rw [if_neg e, if_neg (fun h => e (hf x List.mem_cons_self y List.mem_cons_self h))]
/-- Lines as numbers: alike just where the numbers are. -/
structure Nums (a b : List ByteArray) (M N : List Nat) : Prop where
  ex : ∃ ks : List ByteArray, M = a.map (fun s => nix s ks) ∧ N = b.map (fun s => nix s ks) ∧ (∀ s ∈ a, s ∈ ks) ∧ (∀ s ∈ b, s ∈ ks)
theorem Nums.lenA {a b : List ByteArray} {M N : List Nat} (h : Nums a b M N) : M.length = a.length := by obtain ⟨ks, rfl, -⟩ := h.ex; simp
theorem Nums.lenB {a b : List ByteArray} {M N : List Nat} (h : Nums a b M N) : N.length = b.length := by obtain ⟨ks, -, rfl, -⟩ := h.ex; simp
theorem Nums.drop {a b : List ByteArray} {M N : List Nat} (h : Nums a b M N) (x y : Nat) : Nums (a.drop x) (b.drop y) (M.drop x) (N.drop y) := by
  obtain ⟨ks, rfl, rfl, h1, h2⟩ := h.ex
  exact ⟨ks, by rw [List.map_drop], by rw [List.map_drop], fun s hs => h1 s (List.mem_of_mem_drop hs), fun s hs => h2 s (List.mem_of_mem_drop hs)⟩
theorem Nums.rst {a b : List ByteArray} {M N : List Nat} (h : Nums a b M N) : rst M N = rst a b := by
  obtain ⟨ks, rfl, rfl, h1, h2⟩ := h.ex
  exact rst_map _ _ a b (Nat.le_refl _) (fun x hx y hy e => nix_inj (h1 x hx) (h2 y hy) e)
theorem Nums.eq {a b : List ByteArray} {M N : List Nat} (h : Nums a b M N) {x y p q : Nat} {s t : ByteArray} (hp : M[x]? = some p) (hq : N[y]? = some q) (hs : a[x]? = some s) (ht : b[y]? = some t) : p = q ↔ s = t := by
  obtain ⟨ks, rfl, rfl, h1, h2⟩ := h.ex
  rw [List.getElem?_map, hs] at hp
  rw [List.getElem?_map, ht] at hq
  simp only [Option.map_some, Option.some.injEq] at hp hq
  subst hp hq
  exact ⟨fun e => nix_inj (h1 s (List.mem_of_getElem? hs)) (h2 t (List.mem_of_getElem? ht)) e, fun e => by rw [e]⟩
theorem NmSt.full {w wr : World} {mb n0 : Nat} {ks0 L : List ByteArray} (h : NmSt w wr mb n0 ks0 L L.length) : ∃ (n : Nat) (D : DataW Unit) (ks : List ByteArray), wr.ownsMap Try.prog 9 (plainElem Try.prog 3) mb n D ∧ NumOk D ks ∧ n ≤ n0 + L.length ∧ ks.length ≤ n0 + L.length ∧ (∃ r, ks = ks0 ++ r) ∧ Bk wr w.heap.size 3 (intV (L.map (fun s => nix s ks))) ∧ ∀ s ∈ L, s ∈ ks := by
  obtain ⟨n, D, ks, N, h1, h2, h3, h4, h5, h6, h7, h8⟩ := h.st
  have hN : N = L.map (fun s => nix s ks) := by
    apply List.ext_getElem?
    intro j
    by_cases hj : j < L.length
    · rw [List.getElem?_map, List.getElem?_eq_getElem hj, (h8 j _ hj (List.getElem?_eq_getElem hj)).2]
      rfl
    · rw [List.getElem?_eq_none (by omega), List.getElem?_eq_none (by simp; omega)]
  subst hN
  refine ⟨n, D, ks, h1, h2, h3, h4, h5, h7, fun s hs => ?_⟩
  obtain ⟨j, hj, e⟩ := List.getElem_of_mem hs
  exact (h8 j s hj (by rw [List.getElem?_eq_getElem hj, e])).1
theorem run_makeMapN (w : World) : (Instr.makeMap 113 none).run Try.prog w = .ok (.map (some w.heap.size)) (w.alloc (.map #[] 0)) := by
  simp [Instr.makeMap, newObj]
  rfl
set_option maxHeartbeats 1000000 in
set_option maxRecDepth 100000 in
theorem numbered_any (v u : Value) (a b : List ByteArray) (w : World) (hv : RdS w v a) (hu : RdS w u b) (ha : ∀ s ∈ a, s.size ≤ maxLen) (hb : ∀ s ∈ b, s.size ≤ maxLen) (hal : a.length ≤ 1000) (hbl : b.length ≤ 1000) :
    Calls Try.prog 64 #[v, u] w fun e w' => ∃ ga gb M N, e = .returned (.tuple #[.slice (some ⟨ga, 0, none⟩) a.length a.length, .slice (some ⟨gb, 0, none⟩) b.length b.length]) ∧ w.heap.size ≤ ga ∧ ga < gb ∧ Bk w' ga 3 (intV M) ∧ Bk w' gb 3 (intV N) ∧ Nums a b M N ∧ Below w.heap.size w w' := by
  have hmf : ∀ (fn : Fn) (first cap : Array Value) (w : World), (Instr.makeFunc fn first cap).run Try.prog w = .ok (.func fn first cap) w := fun _ _ _ _ => rfl
  have hmm := run_makeMapN w
  obtain ⟨w0, hw0, hM0, hs0, hB0⟩ : ∃ w0, w.alloc (.map #[] 0) = w0 ∧ w0.ownsMap Try.prog 9 (plainElem Try.prog 3) w.heap.size 0 (.map []) ∧ w0.heap.size = w.heap.size + 1 ∧ Below w.heap.size w w0 := ⟨_, rfl, World.ownsMap_made (H := Unit) w Try.prog 9 (plainElem Try.prog 3), by simp, (Below.refl _ _).alloc (Nat.le_refl _) _⟩
  rw [hw0] at hmm
  obtain ⟨w1, hw1, hC1, hs1, hF1⟩ : ∃ w1, w0.alloc (.cells #[.map (some w.heap.size)] 113) = w1 ∧ Bk w1 w0.heap.size 113 [.map (some w.heap.size)] ∧ w1.heap.size = w0.heap.size + 1 ∧ Fx (fun _ => False) w0 w1 := ⟨_, rfl, heap_alloc_new w0 _, by simp, Fx.alloc _ _ _⟩
  have hM1 := ownsMap_far hM0 (hF1.block w.heap.size (by omega) (by simp))
  have hB1 : Below w.heap.size w w1 := hB0.trans (hF1.below (by omega) (by simp))
  have hcell : ∀ W, Fx (fun i => i = w.heap.size) w1 W → W.cell? ⟨w.heap.size + 1, 0, none⟩ = some (.map (some w.heap.size)) := fun W hW => by rw [← hs0]; exact (hC1.fx hW (by omega)).cell 0 _ rfl
  have hrdv : ∀ W, Fx (fun i => i = w.heap.size) w1 W → RdS W v a := fun W hW => hv.later (hB1.trans (hW.below (by omega) (by omega))) (Nat.le_refl _)
  have hrdu : ∀ W, Fx (fun i => i = w.heap.size) w1 W → RdS W u b := fun W hW => hu.later (hB1.trans (hW.below (by omega) (by omega))) (Nat.le_refl _)
  have K1 := Kept.mk (numbers_any v a (w.heap.size + 1) w.heap.size 0 0 (.map []) [] w1 hrdv ha hal (by omega) (by omega) (by simp) hcell hM1 num_empty)
  have Krdu := Kept.mk hrdu
  have Kcell := Kept.mk hcell
  have Kbb := Kept.mk hb
  have KB1 := Kept.mk hB1
  have KW1 := Kept.mk hw1
  have Ksz : Kept (w1.heap.size = w.heap.size + 2) := ⟨by omega⟩
  obtain ⟨pa, pc, rfl⟩ := hv.form
  obtain ⟨qa, qc, rfl⟩ := hu.form
  clear hv hu ha hb hB0 hB1 hF1 hM0 hM1 hC1 hrdv hrdu hcell hw0 hs1
  go_enter Try.func64, Try.ntmps64
  go_upto_region 2 with fail
  try rw [KW1.out]
  clear hmm hs0 KW1 hw1
  go_wp2_with fail
  refine Calls.mono K1.out (fun e w2 hp => ?_)
  obtain ⟨rfl, hst⟩ := hp
  obtain ⟨n1, D1, ks1, m1, m2, m3, m4, -, m6, m7⟩ := hst.full
  have hfx := hst.fx
  have hlt2 := m6.lt
  have hsz := Ksz.out
  have K2 := Kept.mk (numbers_any _ b (w.heap.size + 1) w.heap.size n1 a.length D1 ks1 w2 (fun W hW => Krdu.out W (hfx.trans hW (fun _ _ h => h))) Kbb.out hbl (by omega) (by omega) (by omega) (fun W hW => Kcell.out W (hfx.trans hW (fun _ _ h => h))) m1 m2)
  have Km6 := Kept.mk m6
  have Km7 := Kept.mk m7
  have Kfx := Kept.mk hfx
  have Klt := Kept.mk hlt2
  clear hst m1 m2 m3 m4 m6 m7 K1 Krdu Kcell hfx hsz hlt2
  go_wp2_with fail
  refine Calls.mono K2.out (fun e w3 hp => ?_)
  obtain ⟨rfl, hst⟩ := hp
  obtain ⟨n2, D2, ks2, -, -, -, -, m5, m6, m7⟩ := hst.full
  obtain ⟨r, hr⟩ := m5
  have hE : Below w.heap.size w w3 ∧ Bk w3 w1.heap.size 3 (intV (a.map (fun s => nix s ks2))) ∧ Bk w3 w2.heap.size 3 (intV (b.map (fun s => nix s ks2))) ∧ Nums a b (a.map (fun s => nix s ks2)) (b.map (fun s => nix s ks2)) ∧ w.heap.size ≤ w1.heap.size ∧ w1.heap.size < w2.heap.size := by
    have hsz := Ksz.out
    have hB2 := KB1.out.trans (Kfx.out.below (B := w.heap.size) (by omega) (by omega))
    have hlt := Klt.out
    refine ⟨hB2.trans (hst.fx.below (by omega) (by omega)), ?_, m6, ⟨ks2, rfl, rfl, fun s hs => ?_, m7⟩, by omega, hlt⟩
    · have h := Km6.out.fx hst.fx (by omega)
      rwa [show a.map (fun s => nix s ks1) = a.map (fun s => nix s ks2) from List.map_congr_left fun s hs => by rw [hr, nix_left (Km7.out s hs)]] at h
    · rw [hr]; exact List.mem_append_left _ (Km7.out s hs)
  have KE := Kept.mk hE
  clear hst m6 m7 hE K2 hr
  go_wp2
  go_ret2
  obtain ⟨e1, e2, e3, e4, e5, e6⟩ := KE.out
  exact ⟨_, _, _, _, rfl, e5, e6, e2, e3, e4, e1⟩
/-- A row of rests. -/
def rowL (M N : List Nat) : List Nat := (List.range (N.length + 1)).map fun j => rst M (N.drop j)
theorem rowL_len (M N : List Nat) : (rowL M N).length = N.length + 1 := by unfold rowL; simp
theorem rowL_get (M N : List Nat) {j : Nat} (h : j ≤ N.length) : (rowL M N)[j]? = some (rst M (N.drop j)) := by
  unfold rowL
  rw [List.getElem?_map, List.getElem?_range (by omega)]
  rfl
theorem row_eq {M N R : List Nat} (hl : R.length = N.length + 1) (h : ∀ j, j ≤ N.length → R[j]? = some (rst M (N.drop j))) : R = rowL M N := by
  apply List.ext_getElem?
  intro j
  by_cases hj : j ≤ N.length
  · rw [h j hj, rowL_get M N hj]
  · rw [List.getElem?_eq_none (by omega), List.getElem?_eq_none (by rw [rowL_len]; omega)]


theorem wr64 {x : Int} (h0 : -9223372036854775808 ≤ x) (h1 : x ≤ 9223372036854775807) : IntKind.i64.wrap x = x := by rw [IntKind.wrap_i64]; omega
def u16V (N : List Nat) : List Value := N.map (fun n : Nat => Value.int .u16 (n : Int))
theorem u16V_len (N : List Nat) : (u16V N).length = N.length := by unfold u16V; simp
theorem u16V_get {N : List Nat} {j n : Nat} (h : N[j]? = some n) : (u16V N)[j]? = some (.int .u16 (n : Int)) := by unfold u16V; rw [List.getElem?_map, h]; rfl
theorem u16V_set (N : List Nat) (j n : Nat) : (u16V N).set j (.int .u16 (n : Int)) = u16V (N.set j n) := by unfold u16V; rw [List.map_set]
theorem rst_small {M N : List Nat} (h1 : M.length ≤ 1000) (h2 : N.length ≤ 1000) (j : Nat) : rst M (N.drop j) ≤ 2000 := by
  have := rst_le _ M (N.drop j) (Nat.le_refl _)
  rw [List.length_drop] at this
  omega
theorem drop_cons {N : List Nat} {k q : Nat} (h : N[k]? = some q) : N.drop k = q :: N.drop (k + 1) := by
  have hk : k < N.length := by
    rcases Nat.lt_or_ge k N.length with h' | h'
    · exact h'
    · rw [List.getElem?_eq_none h'] at h; cases h
  rw [List.drop_eq_getElem_cons hk]
  rw [List.getElem?_eq_getElem hk] at h
  injection h with h
  rw [h]
theorem Fx.drewN {S : Nat → Prop} {w w' : World} (h : Fx S w w') (m : Nat) : Fx S w (w'.drewN m) := ⟨h.os, h.tape, h.output, h.size, h.block⟩
/-- Where fillRow stands: from k on the row is filled. -/
structure RwSt (w wr : World) (rb : Nat) (p : Nat) (M N : List Nat) (k : Nat) : Prop where
  st : ∃ R : List Nat, R.length = N.length + 1 ∧ Bk wr rb 117 (u16V R) ∧ ∀ j, k ≤ j → j ≤ N.length → R[j]? = some (rst (p :: M) (N.drop j))
  fx : Fx (fun i => i = rb) w wr
  le : k ≤ N.length
theorem RwSt.step {w wr : World} {rb p : Nat} {M N : List Nat} {k : Nat} {R : List Nat} (hl : R.length = N.length + 1) (hb : Bk wr rb 117 (u16V R)) (hk : k < N.length) (h : ∀ j, k + 1 ≤ j → j ≤ N.length → R[j]? = some (rst (p :: M) (N.drop j))) (hf : Fx (fun i => i = rb) w wr) {x : Nat} (hx : x = rst (p :: M) (N.drop k)) :
    RwSt w (wr.setCell ⟨rb, k, none⟩ (.int .u16 (x : Int))) rb p M N k := by
  refine ⟨⟨R.set k x, by simp [hl], ?_, fun j h1 h2 => ?_⟩, hf.trans (Fx.setCell _ _ _ _) (fun i _ e => e), by omega⟩
  · have := hb.set k (.int .u16 (x : Int))
    rw [u16V_set] at this
    exact this
  · by_cases e : j = k
    · subst e
      rw [List.getElem?_set_self (by omega), hx]
    · rw [List.getElem?_set_ne (fun h => e h.symm)]
      exact h j (by omega) h2
set_option maxHeartbeats 2000000 in
set_option maxRecDepth 100000 in
theorem fillRow_any (rb nb gb p : Nat) (R M N : List Nat) (w : World) (hM : M.length ≤ 999) (hN : N.length ≤ 1000) (hRl : R.length = N.length + 1) (hR : Bk w rb 117 (u16V R)) (hRm : R[N.length]? = some (M.length + 1)) (hNx : Bk w nb 117 (u16V (rowL M N))) (hB : Bk w gb 3 (intV N)) (h1 : nb ≠ rb) (h2 : gb ≠ rb) :
    Calls Try.prog 70 #[.slice (some ⟨rb, 0, none⟩) (N.length + 1) (N.length + 1), .slice (some ⟨nb, 0, none⟩) (N.length + 1) (N.length + 1), .int .i64 p, .slice (some ⟨gb, 0, none⟩) N.length N.length] w fun e w' => e = .returned (.tuple #[]) ∧ Bk w' rb 117 (u16V (rowL (p :: M) N)) ∧ Fx (fun i => i = rb) w w' := by
  have K0 : Kept (RwSt w w rb p M N N.length) := ⟨⟨⟨R, hRl, hR, fun j h1 h2 => by
    have : j = N.length := by omega
    subst this
    rw [hRm, List.drop_length, rst_nil2]; rfl⟩, Fx.refl _ _, Nat.le_refl _⟩⟩
  have KNx : Kept (∀ W, Fx (fun i => i = rb) w W → Bk W nb 117 (u16V (rowL M N))) := ⟨fun W hW => hNx.fx hW h1⟩
  have KB : Kept (∀ W, Fx (fun i => i = rb) w W → Bk W gb 3 (intV N)) := ⟨fun W hW => hB.fx hW h2⟩
  have e0 : IntKind.i64.wrap ((N.length : Int) - 1) = (N.length : Int) - 1 := wr64 (by omega) (by omega)
  clear hR hRm hNx hB h1 h2 hRl
  go_enter Try.func70, Try.ntmps70
  go_upto_region 1 with fail
  go_loopw [8] (fun yv wr => ∃ k : Nat, yv = .int .i64 ((k : Int) - 1) ∧ RwSt w wr rb p M N k) (fun yv _ => (intOf yv + 1).toNat)
  case atStart => exact ⟨N.length, rfl, K0.out⟩
  case round =>
    obtain ⟨k, rfl, hst⟩ := hrel
    have KSt := Kept.mk hst
    clear K0 e0
    obtain ⟨⟨R', hl', hb', hall⟩, hfx, hle⟩ := hst
    cases k with
    | zero =>
      have hge : decide (((0 : Nat) : Int) - 1 ≥ 0) = false := by decide
      have KE : Kept (Bk wr rb 117 (u16V (rowL (p :: M) N)) ∧ Fx (fun i => i = rb) w wr) := ⟨⟨by rw [← row_eq hl' (fun j hj => hall j (Nat.zero_le _) hj)]; exact hb', hfx⟩⟩
      clear hall hb' hfx
      go_wp2
      refine bodyPost_end (results_none rfl _ _ _) rfl ?_
      exact ⟨rfl, KE.out⟩
    | succ k =>
      have hky : ((k + 1 : Nat) : Int) - 1 = (k : Int) := by omega
      rw [hky]
      have hge : decide ((k : Int) ≥ 0) = true := decide_eq_true (by omega)
      have hk : k < N.length := hle
      have i0 : (0 : Int) ≤ (k : Int) := by omega
      have i1 : (k : Int) < (N.length : Int) := by omega
      have i2 : (k : Int) < ((N.length : Nat) : Int) + 1 := by omega
      have i3 : (k : Int) + 1 < ((N.length : Nat) : Int) + 1 := by omega
      have e1 : IntKind.i64.wrap ((k : Int) + 1) = (k : Int) + 1 := wr64 (by omega) (by omega)
      have e2 : IntKind.i64.wrap ((k : Int) - 1) = (k : Int) - 1 := wr64 (by omega) (by omega)
      have t1 : ((k : Int) + 1).toNat = k + 1 := by omega
      obtain ⟨q, hq⟩ : ∃ q, N[k]? = some q := ⟨_, List.getElem?_eq_getElem hk⟩
      have hdr := drop_cons hq
      have hx := KNx.out wr hfx
      have cb := (KB.out wr hfx).cell k _ (intV_get hq)
      have cn0 := hx.cell k _ (u16V_get (rowL_get M N (by omega)))
      have cn1 := hx.cell (k + 1) _ (u16V_get (rowL_get M N (by omega)))
      have cr1 := hb'.cell (k + 1) _ (u16V_get (hall (k + 1) (Nat.le_refl _) (by omega)))
      obtain ⟨u0, hu0⟩ : ∃ u0, R'[k]? = some u0 := ⟨_, List.getElem?_eq_getElem (by omega)⟩
      have cr0 := hb'.cell k _ (u16V_get hu0)
      have fr0 := hb'.frozen k
      have s1 := rst_small (M := M) (N := N) (by omega) hN k
      have s2 := rst_small (M := M) (N := N) (by omega) hN (k + 1)
      have s3 := rst_small (M := p :: M) (N := N) (by simp; omega) hN (k + 1)
      by_cases hpq : p = q
      · have hb0 : ((p : Int) == (q : Int)) = true := by simp [hpq]
        have KE : Kept (RwSt w (wr.setCell ⟨rb, k, none⟩ (.int .u16 ((rst M (N.drop (k + 1)) : Nat) : Int))) rb p M N k) := ⟨RwSt.step hl' hb' hk hall hfx (by rw [hdr, rst_cons, if_pos hpq])⟩
        clear hall hb' hfx hx hu0 hq hl' hpq s1 s2 s3 cn0 cr1 hdr
        generalize rst M (N.drop (k + 1)) = z1 at *
        go_wp2
        go_roundw
        case rel => exact ⟨k, by go_num, KE.out⟩
        case measure => simp [intOf]
      · have hb0 : ((p : Int) == (q : Int)) = false := by simp; omega
        obtain ⟨z, hz, hz2⟩ : ∃ z : Nat, (if ((rst (p :: M) (N.drop (k + 1)) : Nat) : Int) < ((rst M (N.drop k) : Nat) : Int) then ((rst (p :: M) (N.drop (k + 1)) : Nat) : Int) else ((rst M (N.drop k) : Nat) : Int)) = (z : Int) ∧ z = min (rst M (N.drop k)) (rst (p :: M) (N.drop (k + 1))) := by
          refine ⟨_, ?_, rfl⟩
          split <;> omega
        have hzs : z ≤ 2000 := by omega
        have w1 : IntKind.u16.wrap (1 + (z : Int)) = ((1 + z : Nat) : Int) := by rw [show IntKind.u16.wrap (1 + (z : Int)) = (1 + (z : Int)) % 65536 from rfl]; omega
        have KE : Kept (∀ m, RwSt w ((wr.drewN m).setCell ⟨rb, k, none⟩ (.int .u16 ((1 + z : Nat) : Int))) rb p M N k) := ⟨fun m => RwSt.step hl' (show Bk (wr.drewN m) rb _ _ from hb') hk hall (hfx.drewN m) (by rw [hz2]; conv => rhs; rw [hdr, rst_cons, if_neg hpq]; rw [← hdr])⟩
        clear hall hb' hfx hx hu0 hq hl' hpq s1 s2 s3 cn1 hdr hz2 hzs
        generalize rst M (N.drop k) = z1 at *
        generalize rst (p :: M) (N.drop (k + 1)) = z2 at *
        have Kw : Kept (IntKind.u16.wrap (1 + if z2 < z1 then (z2 : Int) else (z1 : Int)) = ((1 + z : Nat) : Int)) := ⟨by
          rw [show (if z2 < z1 then (z2 : Int) else (z1 : Int)) = (z : Int) from by rw [← hz]; split <;> split <;> omega]
          exact w1⟩
        clear hz w1
        go_upto_region 5 with fail
        refine wp_region_last _ 14 (by kernel_rfl) (by kernel_rfl) rfl rfl ?_
        simp only [List.take_succ_cons, List.take_zero]
        repeat (first | go_big_quiet_step (fail) | quiet_step (fail))
        refine wpQuiet_nil ?_
        intro m
        go_wp2
        go_roundw
        case rel => exact ⟨k, by go_num, by rw [Kw.out]; exact KE.out m⟩
        case measure => simp [intOf]
end Go.Proofs.Ytidpdhnbnecddaa
