/-
  Blocks, and what may have turned; numbers of lines (pure).
-/
import Derived.Test.YtjhcpmhjdhmjpaaV1
import Derived.Maps.OwnSet
import Derived.Maps.Views
import Derived.Maps.Keyed
import Derived.StringKeys
namespace Go.Proofs.Ytjhcpmhjdhmjpaa
open Go.RowKit

/-- A block holds these cells. -/
def Bk (w : World) (g : Nat) (T : TypeId) (cs : List Value) : Prop := w.heap[g]? = some (.cells cs.toArray T)
section
variable {w w' : World} {g : Nat} {T : TypeId} {cs : List Value}
theorem Bk.lt (h : Bk w g T cs) : g < w.heap.size := (Array.getElem?_eq_some_iff.1 h).1
theorem Bk.cell (h : Bk w g T cs) (j : Nat) (u : Value) (hu : cs[j]? = some u) : w.cell? ⟨g, j, none⟩ = some u := by
  rw [cell_of_row w g j _ T (0, 0) h]
  simpa using hu
theorem Bk.frozen (h : Bk w g T cs) (j : Nat) : w.frozen? ⟨g, j, none⟩ = false := by
  unfold Bk at h
  simp [World.frozen?, h]
theorem Bk.range (h : Bk w g T cs) : w.rangeAt g 0 cs := fun j u hu => by rw [Nat.zero_add]; exact h.cell j u hu
theorem Bk.set (h : Bk w g T cs) (j : Nat) (u : Value) : Bk (w.setCell ⟨g, j, none⟩ u) g T (cs.set j u) := by
  unfold Bk
  rw [heap_setCell_same w g j _ T u h]
  simp
theorem Bk.other (h : Bk w g T cs) {k j : Nat} (hk : g ≠ k) (u : Value) : Bk (w.setCell ⟨k, j, none⟩ u) g T cs := by
  unfold Bk at h ⊢
  rw [Below.heap_setCell _ _ _ _ hk]
  exact h
theorem Bk.far (h : Bk w g T cs) (hb : w'.heap[g]? = w.heap[g]?) : Bk w' g T cs := by
  unfold Bk at h ⊢
  rw [hb]
  exact h
theorem Bk.new (w : World) (T : TypeId) (cs : List Value) : Bk (w.alloc (.cells cs.toArray T)) w.heap.size T cs := heap_alloc_new w _
end
/-- Of the blocks that were there only those of S may have turned. -/
structure Fx (S : Nat → Prop) (w w' : World) : Prop where
  os : w'.os = w.os
  tape : w'.tape = w.tape
  output : w'.output = w.output
  size : w.heap.size ≤ w'.heap.size
  block : ∀ k, k < w.heap.size → ¬ S k → w'.heap[k]? = w.heap[k]?
theorem Fx.refl (S : Nat → Prop) (w : World) : Fx S w w := ⟨rfl, rfl, rfl, Nat.le_refl _, fun _ _ _ => rfl⟩
theorem Fx.trans {S S' : Nat → Prop} {a b c : World} (h : Fx S a b) (k : Fx S' b c) (hS : ∀ i, i < a.heap.size → S' i → S i) : Fx S a c :=
  ⟨k.os.trans h.os, k.tape.trans h.tape, k.output.trans h.output, Nat.le_trans h.size k.size, fun i hi hn => (k.block i (Nat.lt_of_lt_of_le hi h.size) (fun hs => hn (hS i hi hs))).trans (h.block i hi hn)⟩
theorem Fx.weak {S S' : Nat → Prop} {a b : World} (h : Fx S a b) (hS : ∀ i, i < a.heap.size → S i → S' i) : Fx S' a b := ⟨h.os, h.tape, h.output, h.size, fun i hi hn => h.block i hi (fun hs => hn (hS i hi hs))⟩
theorem Fx.ofBelow {S : Nat → Prop} {B : Nat} {a b : World} (h : Below B a b) (hB : a.heap.size ≤ B) : Fx S a b := ⟨h.os, h.tape, h.output, h.size, fun i hi _ => h.block i (Nat.lt_of_lt_of_le hi hB)⟩
theorem Fx.below {S : Nat → Prop} {B : Nat} {a b : World} (h : Fx S a b) (hB : B ≤ a.heap.size) (hS : ∀ i, i < B → ¬ S i) : Below B a b := ⟨h.os, h.tape, h.output, h.size, fun i hi => h.block i (Nat.lt_of_lt_of_le hi hB) (hS i hi)⟩
theorem Fx.alloc (S : Nat → Prop) (w : World) (o : Obj) : Fx S w (w.alloc o) := Fx.ofBelow ((Below.refl w.heap.size w).alloc (Nat.le_refl _) o) (Nat.le_refl _)
theorem Fx.setCell (w : World) (g j : Nat) (u : Value) : Fx (fun k => k = g) w (w.setCell ⟨g, j, none⟩ u) := by
  refine ⟨rfl, rfl, rfl, by simp [World.setCell], fun k _ hk => ?_⟩
  rw [Below.heap_setCell _ _ _ _ hk]
theorem Fx.grown {w w' : World} {r : Option Nat} (h : w.grownBy w' r) : Fx (fun k => r = some k) w w' := ⟨h.os, h.tape, h.output, h.size, fun k hk hn => h.block k hk (fun e => hn e.symm)⟩
theorem Bk.fx {S : Nat → Prop} {w w' : World} {g : Nat} {T : TypeId} {cs : List Value} (h : Bk w g T cs) (hx : Fx S w w') (hg : ¬ S g) : Bk w' g T cs := h.far (hx.block g h.lt hg)
theorem ownsMap_far {P : Program} {k : TypeId} {R : Value → Option (DataW Unit × List MemPlace)} {w w' : World} {mb n : Nat} {D : DataW Unit} (h : w.ownsMap P k R mb n D) (hb : w'.heap[mb]? = w.heap[mb]?) : w'.ownsMap P k R mb n D := by
  obtain ⟨es, clock, h1, r⟩ := h
  exact ⟨es, clock, by rw [hb]; exact h1, r⟩
/-- The place of a line among those that have a number. -/
def nix (s : ByteArray) : List ByteArray → Nat
  | [] => 0
  | k :: ks => if k = s then 0 else nix s ks + 1
theorem nix_get {s : ByteArray} : ∀ {ks : List ByteArray}, s ∈ ks → ks[nix s ks]? = some s
  | [], h => by cases h
  | k :: ks, h => by
    unfold nix
    split
    · rename_i hk; rw [hk]; rfl
    · rename_i hk
      rcases List.mem_cons.1 h with rfl | h
      · exact absurd rfl hk
      · rw [List.getElem?_cons_succ]; exact nix_get h
theorem nix_inj {s t : ByteArray} {ks : List ByteArray} (hs : s ∈ ks) (ht : t ∈ ks) (h : nix s ks = nix t ks) : s = t := by
  have h1 := nix_get hs
  rw [h, nix_get ht] at h1
  injection h1 with h1
  exact h1.symm
theorem nix_left {s : ByteArray} : ∀ {ks r : List ByteArray}, s ∈ ks → nix s (ks ++ r) = nix s ks
  | [], _, h => by cases h
  | k :: ks, r, h => by
    rw [List.cons_append]
    unfold nix
    split
    · rfl
    · rename_i hk
      rcases List.mem_cons.1 h with rfl | h
      · exact absurd rfl hk
      · rw [nix_left h]
theorem nix_new {s : ByteArray} : ∀ {ks : List ByteArray}, s ∉ ks → nix s (ks ++ [s]) = ks.length
  | [], _ => by simp [nix]
  | k :: ks, h => by
    rw [List.cons_append]
    unfold nix
    rw [if_neg (fun e => h (by rw [e]; exact List.mem_cons_self)), nix_new (fun e => h (List.mem_cons_of_mem _ e)), List.length_cons]
theorem nix_lt {s : ByteArray} {ks : List ByteArray} (h : s ∈ ks) : nix s ks < ks.length := by
  have := nix_get h
  rcases Nat.lt_or_ge (nix s ks) ks.length with h' | h'
  · exact h'
  · rw [List.getElem?_eq_none h'] at this; cases this
def kl (s : ByteArray) : Lit := .string s.data.toList
theorem kl_inj {s t : ByteArray} (h : kl s = kl t) : s = t := by
  unfold kl at h
  injection h with h
  apply ByteArray.ext
  exact Array.ext' h
/-- The map numbers these lines. -/
structure NumOk (D : DataW Unit) (ks : List ByteArray) : Prop where
  tidy : Maps.Tidy D
  size : Maps.size D = ks.length
  has : ∀ s, Maps.has D (kl s) = true ↔ s ∈ ks
  num : ∀ s ∈ ks, D.atKey (kl s) (.lit (.int .i64 0)) = .lit (.int .i64 (nix s ks : Nat))
theorem num_empty : NumOk (.map []) [] := ⟨Maps.tidy_empty, rfl, fun s => by simp [Maps.has], fun s h => by cases h⟩
theorem key_lit {P : Program} {k : TypeId} (hk : P.underlying k = some .string) {s : ByteArray} (hs : s.size ≤ maxLen) : WideAt.IsKeyLit (kl s) := (Maps.string_keyed hk).key (WideMaps.keyOf_string_mk hk hs)
theorem NumOk.add {P : Program} {k : TypeId} (hk : P.underlying k = some .string) {D : DataW Unit} {ks : List ByteArray} (h : NumOk D ks) {s : ByteArray} (hs : s.size ≤ maxLen) (hn : s ∉ ks) : NumOk (D.put (kl s) (.lit (.int .i64 (ks.length : Nat)))) (ks ++ [s]) := by
  have hkl := key_lit hk hs
  have hno : Maps.has D (kl s) = false := Bool.eq_false_iff.2 fun e => hn ((h.has s).1 e)
  refine ⟨h.tidy.put hkl _, ?_, fun t => ?_, fun t ht => ?_⟩
  · rw [Maps.size_put h.tidy, hno, h.size, List.length_append]
    rfl
  · by_cases e : t = s
    · subst e
      rw [Maps.has_put_same h.tidy.isMap hkl]
      simp
    · rw [Maps.has_put_other (fun he => e (kl_inj he)), h.has]
      rw [List.mem_append, List.mem_singleton]
      exact ⟨.inl, fun h' => h'.resolve_right e⟩
  · by_cases e : t = s
    · subst e
      rw [Maps.atKey_put_same h.tidy.isMap hkl, nix_new hn]
    · have ht' : t ∈ ks := by
        rcases List.mem_append.1 ht with h' | h'
        · exact h'
        · simp at h'; exact absurd h' e
      rw [Maps.atKey_put_other (fun he => e (kl_inj he)), h.num t ht', nix_left ht']
end Go.Proofs.Ytjhcpmhjdhmjpaa
