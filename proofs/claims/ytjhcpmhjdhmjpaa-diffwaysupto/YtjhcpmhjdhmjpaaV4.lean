/-
  Walks: numbered. Rows of rests (pure).
-/
import Derived.Test.YtjhcpmhjdhmjpaaV3
import Derived.Test.YtjhcpmhjdhmjpaaDP
namespace Go.Proofs.Ytjhcpmhjdhmjpaa
open Go.RowKit Go.WideMaps

theorem rst_map {α β : Type} [DecidableEq α] [DecidableEq β] (f : α → β) : ∀ (n : Nat) (a b : List α), a.length + b.length ≤ n → (∀ x ∈ a, ∀ y ∈ b, f x = f y → x = y) → rst (a.map f) (b.map f) = rst a b := by
  intro n
  induction n with
  | zero =>
    intro a b h _
    have ha : a = [] := List.eq_nil_of_length_eq_zero (by omega)
    rw [ha, List.map_nil, rst_nil, rst_nil, List.length_map]
  | succ n ih =>
    intro a b h hf
    cases a with
    | nil => rw [List.map_nil, rst_nil, rst_nil, List.length_map]
    | cons x us =>
      cases b with
      | nil => rw [List.map_nil, rst_nil2, rst_nil2, List.length_map]
      | cons y vs =>
        simp only [List.length_cons] at h
        have h1 := ih us vs (by omega) (fun p hp q hq => hf p (List.mem_cons_of_mem _ hp) q (List.mem_cons_of_mem _ hq))
        have h2 := ih us (y :: vs) (by simp only [List.length_cons]; omega) (fun p hp q hq => hf p (List.mem_cons_of_mem _ hp) q hq)
        have h3 := ih (x :: us) vs (by simp only [List.length_cons]; omega) (fun p hp q hq => hf p hp q (List.mem_cons_of_mem _ hq))
        rw [List.map_cons] at h2 h3
        rw [List.map_cons, List.map_cons, rst_cons, rst_cons, h1, h2, h3]
        by_cases e : x = y
        · rw [if_pos e, if_pos (by rw [e])]
        · rw [if_neg e, if_neg (fun h => e (hf x List.mem_cons_self y List.mem_cons_self h))]
/-- Lines as numbers: alike just where the numbers are. -/
structure Nums (a b : List ByteArray) (M N : List Nat) : Prop where
  ex : ∃ ks : List ByteArray, M = a.map (fun s => nix s ks) ∧ N = b.map (fun s => nix s ks) ∧ (∀ s ∈ a, s ∈ ks) ∧ (∀ s ∈ b, s ∈ ks)
theorem Nums.lenA {a b : List ByteArray} {M N : List Nat} (h : Nums a b M N) : M.length = a.length := by obtain ⟨ks, rfl, -⟩ := h.ex; simp
theorem Nums.lenB {a b : List ByteArray} {M N : List Nat} (h : Nums a b M N) : N.length = b.length := by obtain ⟨ks, -, rfl, -⟩ := h.ex; simp
theorem Nums.drop {a b : List ByteArray} {M N : List Nat} (h : Nums a b M N) (x y : Nat) : Nums (a.drop x) (b.drop y) (M.drop x) (N.drop y) := by
  obtain ⟨ks, rfl, rfl, h1, h2⟩ := h.ex
  exact ⟨ks, by rw [List.map_drop], by rw [List.map_drop], fun s hs => h1 s (List.mem_of_mem_drop hs), fun s hs => h2 s (List.mem_of_mem_drop hs)⟩
theorem Nums.rst {a b : List ByteArray} {M N : List Nat} (h : Nums a b M N) : rst M N = rst a b := by
  obtain ⟨ks, rfl, rfl, h1, h2⟩ := h.ex
  exact rst_map _ _ a b (Nat.le_refl _) (fun x hx y hy e => nix_inj (h1 x hx) (h2 y hy) e)
theorem Nums.eq {a b : List ByteArray} {M N : List Nat} (h : Nums a b M N) {x y p q : Nat} {s t : ByteArray} (hp : M[x]? = some p) (hq : N[y]? = some q) (hs : a[x]? = some s) (ht : b[y]? = some t) : p = q ↔ s = t := by
  obtain ⟨ks, rfl, rfl, h1, h2⟩ := h.ex
  rw [List.getElem?_map, hs] at hp
  rw [List.getElem?_map, ht] at hq
  simp only [Option.map_some, Option.some.injEq] at hp hq
  subst hp hq
  exact ⟨fun e => nix_inj (h1 s (List.mem_of_getElem? hs)) (h2 t (List.mem_of_getElem? ht)) e, fun e => by rw [e]⟩
theorem NmSt.full {w wr : World} {mb n0 : Nat} {ks0 L : List ByteArray} (h : NmSt w wr mb n0 ks0 L L.length) : ∃ (n : Nat) (D : DataW Unit) (ks : List ByteArray), wr.ownsMap Try.prog 9 (plainElem Try.prog 3) mb n D ∧ NumOk D ks ∧ n ≤ n0 + L.length ∧ ks.length ≤ n0 + L.length ∧ (∃ r, ks = ks0 ++ r) ∧ Bk wr w.heap.size 3 (intV (L.map (fun s => nix s ks))) ∧ ∀ s ∈ L, s ∈ ks := by
  obtain ⟨n, D, ks, N, h1, h2, h3, h4, h5, h6, h7, h8⟩ := h.st
  have hN : N = L.map (fun s => nix s ks) := by
    apply List.ext_getElem?
    intro j
    by_cases hj : j < L.length
    · rw [List.getElem?_map, List.getElem?_eq_getElem hj, (h8 j _ hj (List.getElem?_eq_getElem hj)).2]
      rfl
    · rw [List.getElem?_eq_none (by omega), List.getElem?_eq_none (by simp; omega)]
  subst hN
  refine ⟨n, D, ks, h1, h2, h3, h4, h5, h7, fun s hs => ?_⟩
  obtain ⟨j, hj, e⟩ := List.getElem_of_mem hs
  exact (h8 j s hj (by rw [List.getElem?_eq_getElem hj, e])).1
theorem run_makeMapN (w : World) : (Instr.makeMap 96 none).run Try.prog w = .ok (.map (some w.heap.size)) (w.alloc (.map #[] 0)) := by
  simp [Instr.makeMap, newObj]
  rfl
set_option maxHeartbeats 1000000 in
set_option maxRecDepth 100000 in
theorem numbered_any (v u : Value) (a b : List ByteArray) (w : World) (hv : RdS w v a) (hu : RdS w u b) (ha : ∀ s ∈ a, s.size ≤ maxLen) (hb : ∀ s ∈ b, s.size ≤ maxLen) (hal : a.length ≤ 1000) (hbl : b.length ≤ 1000) :
    Calls Try.prog 44 #[v, u] w fun e w' => ∃ ga gb M N, e = .returned (.tuple #[.slice (some ⟨ga, 0, none⟩) a.length a.length, .slice (some ⟨gb, 0, none⟩) b.length b.length]) ∧ w.heap.size ≤ ga ∧ ga < gb ∧ Bk w' ga 3 (intV M) ∧ Bk w' gb 3 (intV N) ∧ Nums a b M N ∧ Below w.heap.size w w' := by
  have hmf : ∀ (fn : Fn) (first cap : Array Value) (w : World), (Instr.makeFunc fn first cap).run Try.prog w = .ok (.func fn first cap) w := fun _ _ _ _ => rfl
  have hmm := run_makeMapN w
  obtain ⟨w0, hw0, hM0, hs0, hB0⟩ : ∃ w0, w.alloc (.map #[] 0) = w0 ∧ w0.ownsMap Try.prog 9 (plainElem Try.prog 3) w.heap.size 0 (.map []) ∧ w0.heap.size = w.heap.size + 1 ∧ Below w.heap.size w w0 := ⟨_, rfl, World.ownsMap_made (H := Unit) w Try.prog 9 (plainElem Try.prog 3), by simp, (Below.refl _ _).alloc (Nat.le_refl _) _⟩
  rw [hw0] at hmm
  obtain ⟨w1, hw1, hC1, hs1, hF1⟩ : ∃ w1, w0.alloc (.cells #[.map (some w.heap.size)] 96) = w1 ∧ Bk w1 w0.heap.size 96 [.map (some w.heap.size)] ∧ w1.heap.size = w0.heap.size + 1 ∧ Fx (fun _ => False) w0 w1 := ⟨_, rfl, heap_alloc_new w0 _, by simp, Fx.alloc _ _ _⟩
  have hM1 := ownsMap_far hM0 (hF1.block w.heap.size (by omega) (by simp))
  have hB1 : Below w.heap.size w w1 := hB0.trans (hF1.below (by omega) (by simp))
  have hcell : ∀ W, Fx (fun i => i = w.heap.size) w1 W → W.cell? ⟨w.heap.size + 1, 0, none⟩ = some (.map (some w.heap.size)) := fun W hW => by rw [← hs0]; exact (hC1.fx hW (by omega)).cell 0 _ rfl
  have hrdv : ∀ W, Fx (fun i => i = w.heap.size) w1 W → RdS W v a := fun W hW => hv.later (hB1.trans (hW.below (by omega) (by omega))) (Nat.le_refl _)
  have hrdu : ∀ W, Fx (fun i => i = w.heap.size) w1 W → RdS W u b := fun W hW => hu.later (hB1.trans (hW.below (by omega) (by omega))) (Nat.le_refl _)
  have K1 := Kept.mk (numbers_any v a (w.heap.size + 1) w.heap.size 0 0 (.map []) [] w1 hrdv ha hal (by omega) (by omega) (by simp) hcell hM1 num_empty)
  have Krdu := Kept.mk hrdu
  have Kcell := Kept.mk hcell
  have Kbb := Kept.mk hb
  have KB1 := Kept.mk hB1
  have KW1 := Kept.mk hw1
  have Ksz : Kept (w1.heap.size = w.heap.size + 2) := ⟨by omega⟩
  obtain ⟨pa, pc, rfl⟩ := hv.form
  obtain ⟨qa, qc, rfl⟩ := hu.form
  clear hv hu ha hb hB0 hB1 hF1 hM0 hM1 hC1 hrdv hrdu hcell hw0 hs1
  go_enter Try.func44, Try.ntmps44
  go_upto_region 2 with fail
  try rw [KW1.out]
  clear hmm hs0 KW1 hw1
  go_wp2_with fail
  refine Calls.mono K1.out (fun e w2 hp => ?_)
  obtain ⟨rfl, hst⟩ := hp
  obtain ⟨n1, D1, ks1, m1, m2, m3, m4, -, m6, m7⟩ := hst.full
  have hfx := hst.fx
  have hlt2 := m6.lt
  have hsz := Ksz.out
  have K2 := Kept.mk (numbers_any _ b (w.heap.size + 1) w.heap.size n1 a.length D1 ks1 w2 (fun W hW => Krdu.out W (hfx.trans hW (fun _ _ h => h))) Kbb.out hbl (by omega) (by omega) (by omega) (fun W hW => Kcell.out W (hfx.trans hW (fun _ _ h => h))) m1 m2)
  have Km6 := Kept.mk m6
  have Km7 := Kept.mk m7
  have Kfx := Kept.mk hfx
  have Klt := Kept.mk hlt2
  clear hst m1 m2 m3 m4 m6 m7 K1 Krdu Kcell hfx hsz hlt2
  go_wp2_with fail
  refine Calls.mono K2.out (fun e w3 hp => ?_)
  obtain ⟨rfl, hst⟩ := hp
  obtain ⟨n2, D2, ks2, -, -, -, -, m5, m6, m7⟩ := hst.full
  obtain ⟨r, hr⟩ := m5
  have hE : Below w.heap.size w w3 ∧ Bk w3 w1.heap.size 3 (intV (a.map (fun s => nix s ks2))) ∧ Bk w3 w2.heap.size 3 (intV (b.map (fun s => nix s ks2))) ∧ Nums a b (a.map (fun s => nix s ks2)) (b.map (fun s => nix s ks2)) ∧ w.heap.size ≤ w1.heap.size ∧ w1.heap.size < w2.heap.size := by
    have hsz := Ksz.out
    have hB2 := KB1.out.trans (Kfx.out.below (B := w.heap.size) (by omega) (by omega))
    have hlt := Klt.out
    refine ⟨hB2.trans (hst.fx.below (by omega) (by omega)), ?_, m6, ⟨ks2, rfl, rfl, fun s hs => ?_, m7⟩, by omega, hlt⟩
    · have h := Km6.out.fx hst.fx (by omega)
      rwa [show a.map (fun s => nix s ks1) = a.map (fun s => nix s ks2) from List.map_congr_left fun s hs => by rw [hr, nix_left (Km7.out s hs)]] at h
    · rw [hr]; exact List.mem_append_left _ (Km7.out s hs)
  have KE := Kept.mk hE
  clear hst m6 m7 hE K2 hr
  go_wp2
  go_ret2
  obtain ⟨e1, e2, e3, e4, e5, e6⟩ := KE.out
  exact ⟨_, _, _, _, rfl, e5, e6, e2, e3, e4, e1⟩
/-- A row of rests. -/
def rowL (M N : List Nat) : List Nat := (List.range (N.length + 1)).map fun j => rst M (N.drop j)
theorem rowL_len (M N : List Nat) : (rowL M N).length = N.length + 1 := by unfold rowL; simp
theorem rowL_get (M N : List Nat) {j : Nat} (h : j ≤ N.length) : (rowL M N)[j]? = some (rst M (N.drop j)) := by
  unfold rowL
  rw [List.getElem?_map, List.getElem?_range (by omega)]
  rfl
theorem row_eq {M N R : List Nat} (hl : R.length = N.length + 1) (h : ∀ j, j ≤ N.length → R[j]? = some (rst M (N.drop j))) : R = rowL M N := by
  apply List.ext_getElem?
  intro j
  by_cases hj : j ≤ N.length
  · rw [h j hj, rowL_get M N hj]
  · rw [List.getElem?_eq_none (by omega), List.getElem?_eq_none (by rw [rowL_len]; omega)]
end Go.Proofs.Ytjhcpmhjdhmjpaa
