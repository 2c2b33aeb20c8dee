/-
  For the document's Crash: lists by steps; what is in memory.
-/
import Derived.Test.YtegdadkejheagaaGreatDoorG18
namespace Go.Proofs.YtegdadkejheagaaGreatDoor
open Go.RowKit Go.WideMaps Go.Maps

/-- The names behind the first k folders. -/
def NK (D : DD) (cs : List Int) (k : Nat) : NL := (((foldersF D.pend).take k).foldl (nmsO D.pend cs) (D.lasting, 0)).1
theorem NK_zero (D : DD) (cs : List Int) : NK D cs 0 = D.lasting := rfl
theorem NK_all (D : DD) (cs : List Int) {k : Nat} (hk : (foldersF D.pend).length ≤ k) : NK D cs k = (nmsG D cs (foldersF D.pend)).1 := by
  unfold NK nmsG
  rw [List.take_of_length_le hk]
theorem NK_succ (D : DD) (cs : List Int) {k : Nat} (hk : k < (foldersF D.pend).length) : NK D cs (k + 1) = ((mineF D.pend ((foldersF D.pend)[k]'hk)).take ((chs cs k).toNat % ((mineF D.pend ((foldersF D.pend)[k]'hk)).length + 1))).foldl chgF (NK D cs k) := by
  unfold NK
  rw [List.take_add_one, List.getElem?_eq_getElem hk, List.foldl_append]
  have h2 := nms_snd D.pend cs ((foldersF D.pend).take k) (D.lasting, 0)
  rw [List.length_take, Nat.min_eq_left (by omega), Nat.zero_add] at h2
  generalize ((foldersF D.pend).take k).foldl (nmsO D.pend cs) (D.lasting, 0) = s at h2 ⊢
  obtain ⟨l, i⟩ := s
  simp only at h2
  subst h2
  rfl
theorem NK_le {D : DD} {n : Nat} (h : DL D n) (hl : Srt D.lasting) (cs : List Int) (k : Nat) : (NK D cs k).length ≤ n ∧ Srt (NK D cs k) := by
  have hn := (folders_nodup D.pend).sublist (List.take_sublist k _)
  have h1 := nms_len D.pend cs ((foldersF D.pend).take k) (D.lasting, 0) hl
  have h2 := mine_sum D.pend _ hn
  have h3 := h.l
  have h4 := h1.1
  simp only at h4
  exact ⟨by unfold NK; omega, h1.2⟩
theorem mine_snoc (P : List PnC) (c : PnC) (q : ByteArray) : mineF (P ++ [c]) q = mineF P q ++ if folF c.path = q then [c] else [] := by
  unfold mineF
  rw [List.filter_append]
  by_cases h : folF c.path = q <;> simp [h]
theorem mine_le (P : List PnC) (q : ByteArray) : (mineF P q).length ≤ P.length := List.length_filter_le _ _
theorem fil_snoc (fs : List (List Int × Nat)) (cs : List Int) (l : NL) (k : Nat) (hk : k < l.length) (s : (NL × List (List Int × Nat)) × Nat) : (l.take (k + 1)).foldl (filO fs cs) s = filO fs cs ((l.take k).foldl (filO fs cs) s) (l[k]'hk) := by
  rw [List.take_add_one, List.getElem?_eq_getElem hk, List.foldl_append]
  rfl
/-- The new disk in memory while its files are made. -/
structure CS (W2 wr : World) (g5 : Nat) (q : Int) (nl : NL) (fl : List (List Int × Nat)) (nv fv : Value) : Prop where
  fx : Fx (fun i => i = g5) W2 wr
  b5 : Bk wr g5 36 [nv, .slice none 0 0, .slice none 0 0, fv, .int .i64 q, .slice none 0 0, .int .i64 0, .int .i64 0, .bool false]
  nm : OwN wr W2.heap.size nv nl
  fs : ∃ ms : List CtM, (ms.map fun m => (m.xs, m.s)) = fl ∧ OwK wr W2.heap.size 83 2 fv (ms.map ctC) ∧ ∀ m ∈ ms, Own .u8 5 wr W2.heap.size m.v m.xs ∧ AllB m.xs
theorem CS.later {W2 wr w' : World} {g5 : Nat} {q : Int} {nl : NL} {fl : List (List Int × Nat)} {nv fv : Value} (h : CS W2 wr g5 q nl fl nv fv) (hb : Below wr.heap.size wr w') : CS W2 w' g5 q nl fl nv fv := by
  obtain ⟨ms, h1, h2, h3⟩ := h.fs
  exact ⟨h.fx.trans (Fx.ofBelow (S := fun _ => False) hb (Nat.le_refl _)) (fun _ _ h => h.elim), h.b5.below hb, h.nm.later hb, ms, h1, h2.later hb, fun m hm => ⟨(h3 m hm).1.later hb (Nat.le_refl _), (h3 m hm).2⟩⟩
/-- A file more: the row grew, the cell is stored. -/
theorem CS.file {W2 wr w' : World} {g5 : Nat} {q : Int} {nl : NL} {fl : List (List Int × Nat)} {nv fv pv fv' : Value} {px : List Int} (h : CS W2 wr g5 q nl fl nv fv) (hg5 : g5 < W2.heap.size) (hp : Own .u8 5 wr W2.heap.size pv px) (hA : AllB px) (hg : wr.grownBy w' fv.ownBlock)
    (ms : List CtM) (h1 : (ms.map fun m => (m.xs, m.s)) = fl) (h2 : OwK wr W2.heap.size 83 2 fv (ms.map ctC)) (h3 : ∀ m ∈ ms, Own .u8 5 wr W2.heap.size m.v m.xs ∧ AllB m.xs) (ho : OwK w' W2.heap.size 83 2 fv' (ms.map ctC ++ [[pv, .int .i64 (px.length : Nat)]])) :
    CS W2 (w'.setCell ⟨g5, 3, none⟩ fv') g5 q nl (fl ++ [(px, px.length)]) nv fv' := by
  have hf : ∀ i, fv.ownBlock = some i → W2.heap.size ≤ i := fun i hi => (h2.lt i hi).1
  have ne : ∀ {g k b : Nat} {v : Value} {r : List (List Value)} {t : TypeId}, OwK wr b t k v r → t ≠ 83 → v.ownBlock = some g → fv.ownBlock ≠ some g := fun h4 hne h5 => own_ne h4 h2 hne h5
  have neU : ∀ {g b : Nat} {v : Value} {xs : List Int}, Own .u8 5 wr b v xs → v.ownBlock = some g → fv.ownBlock ≠ some g := fun h4 h5 h6 => by
    obtain ⟨c1, e1⟩ := ownsRow_blk h4 h5
    obtain ⟨c2, e2⟩ := ownsRow_blk h2.1 h6
    exact type_ne e1 e2 (by decide) rfl
  have stp : ∀ i, i < wr.heap.size → fv.ownBlock ≠ some i → i ≠ g5 → (w'.setCell ⟨g5, 3, none⟩ fv').heap[i]? = wr.heap[i]? := fun i hi hn hg' => by
    rw [Below.heap_setCell w' _ fv' i hg']
    exact hg.block i hi (fun e => hn e.symm)
  have b5' : Bk w' g5 36 [nv, .slice none 0 0, .slice none 0 0, fv, .int .i64 q, .slice none 0 0, .int .i64 0, .int .i64 0, .bool false] := h.b5.grow hg (fun e => by have := hf _ e; omega)
  have hU : ∀ {v : Value} {xs : List Int}, Own .u8 5 wr W2.heap.size v xs → Own .u8 5 (w'.setCell ⟨g5, 3, none⟩ fv') W2.heap.size v xs := fun hv => hv.far (fun i hi => stp i (hv.lt i hi).2 (neU hv hi) (by have := (hv.lt i hi).1; omega))
  refine ⟨⟨hg.os.trans h.fx.os, hg.tape.trans h.fx.tape, hg.output.trans h.fx.output, Nat.le_trans (Nat.le_trans h.fx.size hg.size) (by simp [World.setCell]), fun i hi hn => ?_⟩, b5'.set 3 fv', ?_, ms ++ [⟨pv, px, px.length⟩], by rw [List.map_append, h1]; rfl, ?_, fun m hm => ?_⟩
  · rw [stp i (Nat.lt_of_lt_of_le hi h.fx.size) (fun e => by have := hf _ e; omega) hn]
    exact h.fx.block i hi hn
  · exact h.nm.far (fun i hi => stp i (h.nm.lt i hi).2 (ne h.nm (by decide) hi) (by have := (h.nm.lt i hi).1; omega))
  · rw [List.map_append]
    exact ho.far (fun i hi => Below.heap_setCell w' _ fv' i (by have := (ho.lt i hi).1; show i ≠ g5; omega))
  · rcases List.mem_append.1 hm with hm | hm
    · exact ⟨hU (h3 m hm).1, (h3 m hm).2⟩
    · rw [List.mem_singleton] at hm
      subst hm
      exact ⟨hU hp, hA⟩
theorem CS.form {W2 wr : World} {g5 : Nat} {q : Int} {nl : NL} {fl : List (List Int × Nat)} {nv fv : Value} (h : CS W2 wr g5 q nl fl nv fv) : (∃ a m c, nv = .slice a m c) ∧ ∃ a c, fv = .slice a fl.length c := by
  obtain ⟨ms, h1, h2, -⟩ := h.fs
  obtain ⟨a, c, h4⟩ := h2.form
  exact ⟨h.nm.form3, a, c, by rw [h4, ← h1, List.length_map, List.length_map]⟩
/-- A name more. -/
theorem CS.name {W2 wr w' : World} {g5 : Nat} {q : Int} {nl nl' : NL} {fl : List (List Int × Nat)} {nv fv nv' : Value} (h : CS W2 wr g5 q nl fl nv fv) (hg5 : g5 < W2.heap.size) (hb : Below wr.heap.size wr w') (ho : OwN w' W2.heap.size nv' nl') : CS W2 (w'.setCell ⟨g5, 0, none⟩ nv') g5 q nl' fl nv' fv := by
  have h' := h.later hb
  obtain ⟨ms, h1, h2, h3⟩ := h'.fs
  have st : ∀ i, W2.heap.size ≤ i → (w'.setCell ⟨g5, 0, none⟩ nv').heap[i]? = w'.heap[i]? := fun i hi => Below.heap_setCell w' _ nv' i (by show i ≠ g5; omega)
  refine ⟨h'.fx.trans (Fx.setCell w' g5 0 nv') (fun _ _ h => h), h'.b5.set 0 nv', ho.far (fun i hi => st i (ho.lt i hi).1), ms, h1, h2.far (fun i hi => st i (h2.lt i hi).1), fun m hm => ⟨(h3 m hm).1.far (fun i hi => st i ((h3 m hm).1.lt i hi).1), (h3 m hm).2⟩⟩
end Go.Proofs.YtegdadkejheagaaGreatDoor
