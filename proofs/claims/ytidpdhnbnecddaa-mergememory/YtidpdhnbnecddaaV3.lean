/-
  Slices of values of one cell; walks: tooLong, endOf, parts.
-/
import Derived.Test.YtidpdhnbnecddaaK
import Derived.Test.YtidpdhnbnecddaaQ2
import Derived.Test.YtidpdhnbnecddaaDF1
import Derived.Deep.Cut
import Derived.Deep.MidRow
import Derived.Deep.RegionHeld3
import Derived.Maps.OwnSet
import Derived.Maps.Views
import Derived.Maps.Keyed
import Derived.StringKeys
import Derived.OwnWalk
namespace Go.Proofs.Ytidpdhnbnecddaa
open Go.RowKit

/-- A slice of values of one cell each that reads as these. -/
def RdV (w : World) (v : Value) (cs : List Value) : Prop :=
  ∃ (a : Option Addr) (c : Nat), v = .slice a cs.length c ∧ cs.length ≤ c ∧ (0 < cs.length → ∃ b off, a = some ⟨b, off, none⟩ ∧ b < w.heap.size ∧ w.rangeAt b off cs)
theorem RdV.later {B : Nat} {w w' : World} {v : Value} {cs : List Value} (h : RdV w v cs) (hb : Below B w w') (hB : w.heap.size ≤ B) : RdV w' v cs := by
  obtain ⟨a, c, rfl, h1, h2⟩ := h
  refine ⟨a, c, rfl, h1, fun h0 => ?_⟩
  obtain ⟨b, off, rfl, hlt, hr⟩ := h2 h0
  refine ⟨b, off, rfl, Nat.lt_of_lt_of_le hlt (by have := hb.size; omega), fun j u hu => ?_⟩
  rw [hb.cell (p := ⟨b, off + j, none⟩) (Nat.lt_of_lt_of_le hlt hB)]
  exact hr j u hu
theorem RdV.nil (w : World) : RdV w (.slice none 0 0) [] := ⟨none, 0, rfl, Nat.le_refl _, fun h => by simp at h⟩
/-- A slice of texts. -/
def RdS (w : World) (v : Value) (L : List ByteArray) : Prop := RdV w v (L.map Value.string)
theorem RdS.form {w : World} {v : Value} {L : List ByteArray} (h : RdS w v L) : ∃ a c, v = .slice a L.length c := by
  obtain ⟨a, c, rfl, -⟩ := h
  exact ⟨a, c, by rw [List.length_map]⟩
theorem RdS.later {B : Nat} {w w' : World} {v : Value} {L : List ByteArray} (h : RdS w v L) (hb : Below B w w') (hB : w.heap.size ≤ B) : RdS w' v L := RdV.later h hb hB
/-- The point x + y i. -/
def pt (x y : Nat) : Value := .complex .f64 (fl x) (fl y)
def longB (n m : Nat) : Bool := decide (1000 < n) || decide (1000 < m)
set_option maxHeartbeats 400000 in
set_option maxRecDepth 100000 in
theorem tooLong_any (a b : Option Addr) (n m c d : Nat) (w : World) :
    Calls Try.prog 62 #[.slice a n c, .slice b m d] w fun e w' => e = .returned (.bool (longB n m)) ∧ w' = w := by
  unfold longB
  by_cases h1 : 1000 < n
  · have g1 : decide ((1000 : Int) < (n : Int)) = true := decide_eq_true (by omega)
    have K1 : Kept (decide (1000 < n) = true) := ⟨decide_eq_true h1⟩
    clear h1
    go_enter Try.func62, Try.ntmps62
    go_wp2
    go_ret
    exact ⟨by rw [K1.out]; rfl, rfl⟩
  · have g1 : decide ((1000 : Int) < (n : Int)) = false := decide_eq_false (by omega)
    have K1 : Kept (decide (1000 < n) = false) := ⟨decide_eq_false h1⟩
    have K2 : Kept (decide ((1000 : Int) < (m : Int)) = decide (1000 < m)) := ⟨by simp only [decide_eq_decide]; omega⟩
    clear h1
    go_enter Try.func62, Try.ntmps62
    go_wp2
    go_ret
    exact ⟨by rw [K1.out, Bool.false_or, ← K2.out]; rfl, rfl⟩
set_option maxHeartbeats 400000 in
set_option maxRecDepth 100000 in
theorem endOf_any (a b : Option Addr) (n m c d : Nat) (w : World) :
    Calls Try.prog 63 #[.slice a n c, .slice b m d] w fun e w' => e = .returned (pt n m) ∧ w' = w := by
  go_enter Try.func63, Try.ntmps63
  go_wp2
  go_ret
  exact ⟨rfl, rfl⟩
set_option maxHeartbeats 400000 in
set_option maxRecDepth 100000 in
theorem parts_any (x y : Nat) (hx : x < 1100) (hy : y < 1100) (w : World) :
    Calls Try.prog 66 #[pt x y] w fun e w' => e = .returned (.tuple #[.int .i64 x, .int .i64 y]) ∧ w' = w := by
  have h1 := run_convert_float_int (P := Try.prog) w 75 3 .f64 .i64 (fl x) x rfl Try.underlying3 (fl_parts hx).2.2.1
  have h2 := run_convert_float_int (P := Try.prog) w 75 3 .f64 .i64 (fl y) y rfl Try.underlying3 (fl_parts hy).2.2.1
  unfold pt
  generalize fl x = X at *
  generalize fl y = Y at *
  go_enter Try.func66, Try.ntmps66
  go_wp2
  go_ret2
  exact ⟨rfl, rfl⟩


/-- A block holds these cells. -/
def Bk (w : World) (g : Nat) (T : TypeId) (cs : List Value) : Prop := w.heap[g]? = some (.cells cs.toArray T)
section
variable {w w' : World} {g : Nat} {T : TypeId} {cs : List Value}
theorem Bk.lt (h : Bk w g T cs) : g < w.heap.size := (Array.getElem?_eq_some_iff.1 h).1
theorem Bk.cell (h : Bk w g T cs) (j : Nat) (u : Value) (hu : cs[j]? = some u) : w.cell? ⟨g, j, none⟩ = some u := by
  rw [cell_of_row w g j _ T (0, 0) h]
  simpa using hu
theorem Bk.frozen (h : Bk w g T cs) (j : Nat) : w.frozen? ⟨g, j, none⟩ = false := by
  unfold Bk at h
  simp [World.frozen?, h]
theorem Bk.range (h : Bk w g T cs) : w.rangeAt g 0 cs := fun j u hu => by rw [Nat.zero_add]; exact h.cell j u hu
theorem Bk.set (h : Bk w g T cs) (j : Nat) (u : Value) : Bk (w.setCell ⟨g, j, none⟩ u) g T (cs.set j u) := by
  unfold Bk
  rw [heap_setCell_same w g j _ T u h]
  simp
theorem Bk.other (h : Bk w g T cs) {k j : Nat} (hk : g ≠ k) (u : Value) : Bk (w.setCell ⟨k, j, none⟩ u) g T cs := by
  unfold Bk at h ⊢
  rw [Below.heap_setCell _ _ _ _ hk]
  exact h
theorem Bk.far (h : Bk w g T cs) (hb : w'.heap[g]? = w.heap[g]?) : Bk w' g T cs := by
  unfold Bk at h ⊢
  rw [hb]
  exact h
theorem Bk.new (w : World) (T : TypeId) (cs : List Value) : Bk (w.alloc (.cells cs.toArray T)) w.heap.size T cs := heap_alloc_new w _
end
/-- Of the blocks that were there only those of S may have turned. -/
structure Fx (S : Nat → Prop) (w w' : World) : Prop where
  os : w'.os = w.os
  tape : w'.tape = w.tape
  output : w'.output = w.output
  size : w.heap.size ≤ w'.heap.size
  block : ∀ k, k < w.heap.size → ¬ S k → w'.heap[k]? = w.heap[k]?
theorem Fx.refl (S : Nat → Prop) (w : World) : Fx S w w := ⟨rfl, rfl, rfl, Nat.le_refl _, fun _ _ _ => rfl⟩
theorem Fx.trans {S S' : Nat → Prop} {a b c : World} (h : Fx S a b) (k : Fx S' b c) (hS : ∀ i, i < a.heap.size → S' i → S i) : Fx S a c :=
  ⟨k.os.trans h.os, k.tape.trans h.tape, k.output.trans h.output, Nat.le_trans h.size k.size, fun i hi hn => (k.block i (Nat.lt_of_lt_of_le hi h.size) (fun hs => hn (hS i hi hs))).trans (h.block i hi hn)⟩
theorem Fx.weak {S S' : Nat → Prop} {a b : World} (h : Fx S a b) (hS : ∀ i, i < a.heap.size → S i → S' i) : Fx S' a b := ⟨h.os, h.tape, h.output, h.size, fun i hi hn => h.block i hi (fun hs => hn (hS i hi hs))⟩
theorem Fx.ofBelow {S : Nat → Prop} {B : Nat} {a b : World} (h : Below B a b) (hB : a.heap.size ≤ B) : Fx S a b := ⟨h.os, h.tape, h.output, h.size, fun i hi _ => h.block i (Nat.lt_of_lt_of_le hi hB)⟩
theorem Fx.below {S : Nat → Prop} {B : Nat} {a b : World} (h : Fx S a b) (hB : B ≤ a.heap.size) (hS : ∀ i, i < B → ¬ S i) : Below B a b := ⟨h.os, h.tape, h.output, h.size, fun i hi => h.block i (Nat.lt_of_lt_of_le hi hB) (hS i hi)⟩
theorem Fx.alloc (S : Nat → Prop) (w : World) (o : Obj) : Fx S w (w.alloc o) := Fx.ofBelow ((Below.refl w.heap.size w).alloc (Nat.le_refl _) o) (Nat.le_refl _)
theorem Fx.setCell (w : World) (g j : Nat) (u : Value) : Fx (fun k => k = g) w (w.setCell ⟨g, j, none⟩ u) := by
  refine ⟨rfl, rfl, rfl, by simp [World.setCell], fun k _ hk => ?_⟩
  rw [Below.heap_setCell _ _ _ _ hk]
theorem Fx.grown {w w' : World} {r : Option Nat} (h : w.grownBy w' r) : Fx (fun k => r = some k) w w' := ⟨h.os, h.tape, h.output, h.size, fun k hk hn => h.block k hk (fun e => hn e.symm)⟩
theorem Bk.fx {S : Nat → Prop} {w w' : World} {g : Nat} {T : TypeId} {cs : List Value} (h : Bk w g T cs) (hx : Fx S w w') (hg : ¬ S g) : Bk w' g T cs := h.far (hx.block g h.lt hg)
theorem ownsMap_far {P : Program} {k : TypeId} {R : Value → Option (DataW Unit × List MemPlace)} {w w' : World} {mb n : Nat} {D : DataW Unit} (h : w.ownsMap P k R mb n D) (hb : w'.heap[mb]? = w.heap[mb]?) : w'.ownsMap P k R mb n D := by
  obtain ⟨es, clock, h1, r⟩ := h
  exact ⟨es, clock, by rw [hb]; exact h1, r⟩
/-- The place of a line among those that have a number. -/
def nix (s : ByteArray) : List ByteArray → Nat
  | [] => 0
  | k :: ks => if k = s then 0 else nix s ks + 1
theorem nix_get {s : ByteArray} : ∀ {ks : List ByteArray}, s ∈ ks → ks[nix s ks]? = some s
  | [], h => by cases h
  | k :: ks, h => by
    unfold nix
    split
    · rename_i hk; rw [hk]; rfl
    · rename_i hk
      rcases List.mem_cons.1 h with rfl | h
      · exact absurd rfl hk
      · rw [List.getElem?_cons_succ]; exact nix_get h
theorem nix_inj {s t : ByteArray} {ks : List ByteArray} (hs : s ∈ ks) (ht : t ∈ ks) (h : nix s ks = nix t ks) : s = t := by
  have h1 := nix_get hs
  rw [h, nix_get ht] at h1
  injection h1 with h1
  exact h1.symm
theorem nix_left {s : ByteArray} : ∀ {ks r : List ByteArray}, s ∈ ks → nix s (ks ++ r) = nix s ks
  | [], _, h => by cases h
  | k :: ks, r, h => by
    rw [List.cons_append]
    unfold nix
    split
    · rfl
    · rename_i hk
      rcases List.mem_cons.1 h with rfl | h
      · exact absurd rfl hk
      · rw [nix_left h]
theorem nix_new {s : ByteArray} : ∀ {ks : List ByteArray}, s ∉ ks → nix s (ks ++ [s]) = ks.length
  | [], _ => by simp [nix]
  | k :: ks, h => by
    rw [List.cons_append]
    unfold nix
    rw [if_neg (fun e => h (by rw [e]; exact List.mem_cons_self)), nix_new (fun e => h (List.mem_cons_of_mem _ e)), List.length_cons]
theorem nix_lt {s : ByteArray} {ks : List ByteArray} (h : s ∈ ks) : nix s ks < ks.length := by
  have := nix_get h
  rcases Nat.lt_or_ge (nix s ks) ks.length with h' | h'
  · exact h'
  · rw [List.getElem?_eq_none h'] at this; cases this
def kl (s : ByteArray) : Lit := .string s.data.toList
theorem kl_inj {s t : ByteArray} (h : kl s = kl t) : s = t := by
  unfold kl at h
  injection h with h
  apply ByteArray.ext
  exact Array.ext' h
/-- The map numbers these lines. -/
structure NumOk (D : DataW Unit) (ks : List ByteArray) : Prop where
  tidy : Maps.Tidy D
  size : Maps.size D = ks.length
  has : ∀ s, Maps.has D (kl s) = true ↔ s ∈ ks
  num : ∀ s ∈ ks, D.atKey (kl s) (.lit (.int .i64 0)) = .lit (.int .i64 (nix s ks : Nat))
theorem num_empty : NumOk (.map []) [] := ⟨Maps.tidy_empty, rfl, fun s => by simp [Maps.has], fun s h => by cases h⟩
theorem key_lit {P : Program} {k : TypeId} (hk : P.underlying k = some .string) {s : ByteArray} (hs : s.size ≤ maxLen) : WideAt.IsKeyLit (kl s) := (Maps.string_keyed hk).key (WideMaps.keyOf_string_mk hk hs)
theorem NumOk.add {P : Program} {k : TypeId} (hk : P.underlying k = some .string) {D : DataW Unit} {ks : List ByteArray} (h : NumOk D ks) {s : ByteArray} (hs : s.size ≤ maxLen) (hn : s ∉ ks) : NumOk (D.put (kl s) (.lit (.int .i64 (ks.length : Nat)))) (ks ++ [s]) := by
  have hkl := key_lit hk hs
  have hno : Maps.has D (kl s) = false := Bool.eq_false_iff.2 fun e => hn ((h.has s).1 e)
  refine ⟨h.tidy.put hkl _, ?_, fun t => ?_, fun t ht => ?_⟩
  · rw [Maps.size_put h.tidy, hno, h.size, List.length_append]
    rfl
  · by_cases e : t = s
    · subst e
      rw [Maps.has_put_same h.tidy.isMap hkl]
      simp
    · rw [Maps.has_put_other (fun he => e (kl_inj he)), h.has]
      rw [List.mem_append, List.mem_singleton]
      exact ⟨.inl, fun h' => h'.resolve_right e⟩
  · by_cases e : t = s
    · subst e
      rw [Maps.atKey_put_same h.tidy.isMap hkl, nix_new hn]
    · have ht' : t ∈ ks := by
        rcases List.mem_append.1 ht with h' | h'
        · exact h'
        · simp at h'; exact absurd h' e
      rw [Maps.atKey_put_other (fun he => e (kl_inj he)), h.num t ht', nix_left ht']

open Go.RowKit Go.WideMaps

/-- Numbers as values. -/
def intV (N : List Nat) : List Value := N.map (fun n : Nat => Value.int .i64 (n : Int))
theorem intV_len (N : List Nat) : (intV N).length = N.length := by unfold intV; simp
theorem intV_get {N : List Nat} {j n : Nat} (h : N[j]? = some n) : (intV N)[j]? = some (.int .i64 (n : Int)) := by unfold intV; rw [List.getElem?_map, h]; rfl
theorem intV_set (N : List Nat) (j n : Nat) : (intV N).set j (.int .i64 (n : Int)) = intV (N.set j n) := by unfold intV; rw [List.map_set]
theorem info_int : ∃ i, Try.prog.info? 3 = some i ∧ i.zero = some (.int .i64 0) ∧ i.size = 1 ∧ i.bytes = 8 := by
  have h : (Try.prog.info? 3).map (fun i => (i.zero, i.size, i.bytes)) = some (some (.int .i64 0), 1, 8) := by kernel_rfl
  cases h' : Try.prog.info? 3 with
  | none => rw [h'] at h; cases h
  | some i =>
    rw [h'] at h
    simp only [Option.map_some, Option.some.injEq, Prod.mk.injEq] at h
    exact ⟨i, rfl, h.1, h.2.1, h.2.2⟩
theorem made_cells (z : Value) (n : Nat) (hz : z.cells = #[z]) : (madeCells z.cells (n * 1)).toList = List.replicate n z := by
  rw [hz, Nat.mul_one]
  unfold madeCells
  rw [Array.toList_map, Array.toList_range]
  apply List.ext_getElem
  · simp
  · intro j h1 h2
    simp [Nat.mod_one]
/-- A row that was made, as a block. -/
theorem bk_made {w : World} {base g n : Nat} {T : TypeId} {cs : List Value} (h : w.ownsRow base T 1 (.slice (some ⟨g, 0, none⟩) n n) n cs) : Bk w g T cs := by
  rcases h.2 with ⟨h1, -⟩ | ⟨g', cap, cur, hv, -, hh, -, -, hs, ht⟩
  · cases h1
  · injection hv with h1 h2 h3
    injection h1 with h1
    injection h1 with h1
    subst h1 h3
    unfold Bk
    rw [hh]
    congr 2
    rw [← ht, Nat.mul_one, List.take_of_length_le (by rw [Array.length_toList, hs, Nat.mul_one]; exact Nat.le_refl _)]
theorem zeroI (w : World) : (zeroValue 3).run Try.prog w = .ok (.int .i64 0) w := by kernel_rfl
theorem key_str {s : ByteArray} (hs : s.size ≤ maxLen) : keyOf Try.prog 9 (.string s) = some (kl s) := WideMaps.keyOf_string_mk Try.underlying9 hs
theorem wf_nat {n : Nat} (h : n ≤ 1000000) : (Lit.int .i64 (n : Int)).wf = true := by
  have e1 : IntKind.i64.min = -9223372036854775808 := rfl
  have e2 : IntKind.i64.max = 9223372036854775807 := rfl
  simp only [Lit.wf, e1, e2, Bool.and_eq_true, decide_eq_true_eq]
  omega
/-- Where the closure stands behind k lines. -/
structure NmSt (w wr : World) (mb n0 : Nat) (ks0 : List ByteArray) (L : List ByteArray) (k : Nat) : Prop where
  st : ∃ (n : Nat) (D : DataW Unit) (ks : List ByteArray) (N : List Nat), wr.ownsMap Try.prog 9 (plainElem Try.prog 3) mb n D ∧ NumOk D ks ∧ n ≤ n0 + k ∧ ks.length ≤ n0 + k ∧ (∃ r, ks = ks0 ++ r) ∧ N.length = L.length ∧ Bk wr w.heap.size 3 (intV N) ∧ (∀ j s, j < k → L[j]? = some s → s ∈ ks ∧ N[j]? = some (nix s ks))
  fx : Fx (fun i => i = mb) w wr
  le : k ≤ L.length
set_option maxHeartbeats 2000000 in
set_option maxRecDepth 100000 in
theorem numbers_any (v : Value) (L : List ByteArray) (mc mb n n0 : Nat) (D : DataW Unit) (ks : List ByteArray) (w : World) (hrd : ∀ W, Fx (fun i => i = mb) w W → RdS W v L) (hs : ∀ s ∈ L, s.size ≤ maxLen) (hl : L.length ≤ 1000) (hn : n0 ≤ 1000) (hn0 : n ≤ n0) (hkn : ks.length ≤ n0)
    (hc : ∀ W, Fx (fun i => i = mb) w W → W.cell? ⟨mc, 0, none⟩ = some (.map (some mb))) (hM : w.ownsMap Try.prog 9 (plainElem Try.prog 3) mb n D) (hk : NumOk D ks) :
    Calls Try.prog 69 #[v, .pointer (some ⟨mc, 0, none⟩)] w fun e w' => e = .returned (.slice (some ⟨w.heap.size, 0, none⟩) L.length L.length) ∧ NmSt w w' mb n0 ks L L.length := by
  obtain ⟨i0, hi, hz, hsz, hb⟩ := info_int
  obtain ⟨pa, pc, rfl⟩ := (hrd w (Fx.refl _ _)).form
  have hb1 : i0.bytes * L.length ≤ 281474976710656 := by rw [hb]; omega
  have hb2 : L.length ≤ maxLen := by unfold maxLen; omega
  have KRd := Kept.mk hrd
  have KC := Kept.mk hc
  have Ks := Kept.mk hs
  have KM := Kept.mk hM
  have KN := Kept.mk hk
  have hmlt : mb < w.heap.size := hM.lt
  clear hrd hc hs hM hk
  go_enter Try.func69, Try.ntmps69
  go_upto_region 3 with (at_make; refine wpList_make_full _ rfl _ _ 62 rfl w.heap.size 3 i0 (.int .i64 0) 1 Try.underlying62 hi hz hsz .i64 .i64 (L.length : Int) (L.length : Int) L.length rfl rfl rfl rfl hb1 hb2 (Nat.le_refl _) ?_; intro w2 hown hgrow; have KO := Kept.mk hown; have KG := Kept.mk hgrow; clear hown hgrow)
  have KS0 : Kept (NmSt w w2 mb n0 ks L 0) := ⟨⟨⟨n, D, ks, List.replicate L.length 0, ownsMap_far KM.out (KG.out.block mb hmlt (by simp)), KN.out, by omega, by omega, ⟨[], by simp⟩, by simp, (by
      have h1 := bk_made KO.out
      rw [made_cells _ _ rfl] at h1
      unfold intV
      rw [List.map_replicate]
      exact h1), fun j s hj _ => by omega⟩, (Fx.grown KG.out).weak (fun i _ h => by cases h), Nat.zero_le _⟩⟩
  clear KO KG KM KN hi hz hsz hb hb1 hb2 i0
  go_loopw [14] (fun iv wr => ∃ k : Nat, iv = .int .i64 k ∧ NmSt w wr mb n0 ks L k) (fun iv _ => L.length - (intOf iv).toNat)
  case atStart => exact ⟨0, rfl, KS0.out⟩
  case round =>
    obtain ⟨k, rfl, hst⟩ := hrel
    have KSt := Kept.mk hst
    clear KS0
    have hkl := hst.le
    by_cases hlt : k < L.length
    · have hki : (k : Int) < (L.length : Int) := by omega
      have e1 : IntKind.i64.wrap ((k : Int) + 1) = (k : Int) + 1 := by rw [IntKind.wrap_i64]; omega
      obtain ⟨⟨n', D', ks', N, h1, h2, h3, h4, h5, h6, h7, h8⟩, hfx, -⟩ := hst
      obtain ⟨pa', pc', hpe, -, hpr⟩ := KRd.out wr hfx
      rw [List.length_map] at hpe hpr
      obtain ⟨b, off, hpb, hblt, hrg⟩ := hpr (by omega)
      have hpae : pa = some ⟨b, off, none⟩ := by injection hpe with h1 h2 h3; rw [h1, hpb]
      subst hpae
      obtain ⟨s, hsk⟩ : ∃ s, L[k]? = some s := ⟨_, List.getElem?_eq_getElem hlt⟩
      have hcs : wr.cell? ⟨b, off + k, none⟩ = some (.string s) := hrg k _ (by rw [List.getElem?_map, hsk]; rfl)
      have hcm := KC.out wr hfx
      have hsm := Ks.out s (List.mem_of_getElem? hsk)
      have KK := Kept.mk (key_str hsm)
      have hglt := h7.lt
      have hgm : w.heap.size ≠ mb := by omega
      obtain ⟨u0, hu0⟩ : ∃ u0, N[k]? = some u0 := ⟨_, List.getElem?_eq_getElem (by omega)⟩
      have Ksm := Kept.mk hsm
      have Ksk := Kept.mk hsk
      have KM := Kept.mk h1
      have KN := Kept.mk h2
      have KBk := Kept.mk h7
      have Kall := Kept.mk h8
      have Kpre := Kept.mk h5
      have KNl := Kept.mk h6
      have Kn' := Kept.mk h3
      have Kk' := Kept.mk h4
      have Kfx := Kept.mk hfx
      have Kgm := Kept.mk hgm
      have Knn : Kept (n0 ≤ 1000 ∧ L.length ≤ 1000 ∧ k < L.length) := ⟨⟨hn, hl, hlt⟩⟩
      clear hpr hrg hpe hsm hsk h8 h5 hblt
      by_cases hin : s ∈ ks'
      · have hh := (h2.has s).2 hin
        have hnum := h2.num s hin
        have KH := Kept.mk hh
        have KA := Kept.mk hnum
        have hcg := h7.cell k _ (intV_get hu0)
        have hfz := h7.frozen k
        have KE : Kept (NmSt w (wr.setCell ⟨w.heap.size, k, none⟩ (.int .i64 (nix s ks' : Nat))) mb n0 ks L (k + 1)) := ⟨⟨⟨n', D', ks', N.set k (nix s ks'), ownsMap_far h1 (Below.heap_setCell _ _ _ _ (fun e => hgm e.symm)), h2, by omega, by omega, Kpre.out, by simp [h6], (by
            have := h7.set k (.int .i64 (nix s ks' : Nat))
            rw [intV_set] at this
            exact this), fun j t hj ht => by
              by_cases e : j = k
              · subst e
                have : t = s := by rw [Ksk.out] at ht; injection ht with ht; exact ht.symm
                subst this
                exact ⟨hin, by rw [List.getElem?_set_self (by omega)]⟩
              · rw [List.getElem?_set_ne (fun h => e h.symm)]
                exact Kall.out j t (by omega) ht⟩, hfx.trans (Fx.setCell _ _ _ _) (fun i hi e => by omega), hlt⟩⟩
        clear hh hnum h1 h2 h3 h4 h6 h7 hu0 hfx hin hglt hgm
        go_wp2_with (first | (at_lookup; refine wpList_lookup_own_ok_int _ rfl _ _ 113 rfl 9 3 .i64 (Maps.string_keyed Try.underlying9) Try.underlying113 Try.underlying3 (zeroI _) mb n' D' rfl KM.out _ _ rfl KK.out ?_; intro c hat hwc; rw [KH.out]; obtain rfl : c = (nix s ks' : Nat) := (by have := KA.out; rw [this] at hat; injection hat with hat; injection hat with _ hat; exact hat.symm); clear hat hwc))
        go_roundw
        case rel => exact ⟨k + 1, by go_num, KE.out⟩
        case measure => simp [intOf]; omega
      · have hh : Maps.has D' (kl s) = false := Bool.eq_false_iff.2 fun e => hin ((h2.has s).1 e)
        have hlen := h1.len Try.underlying113 3
        rw [h2.size] at hlen
        have KH := Kept.mk hh
        have Kin := Kept.mk hin
        have KP := Kept.mk (plainElem_int (H := Unit) (P := Try.prog) Try.underlying3 (wf_nat (n := ks'.length) (by omega)))
        have hnm : n' < maxLen := by unfold maxLen; omega
        have hmne : mb ≠ w.heap.size := by omega
        have KE : Kept (∀ w3, w3.ownsMap Try.prog 9 (plainElem Try.prog 3) mb (n' + 1) (D'.put (kl s) (.lit (.int .i64 (ks'.length : Nat)))) → wr.grownBy w3 (some mb) → w3.cell? ⟨w.heap.size, k, none⟩ = some (.int .i64 (u0 : Int)) ∧ w3.frozen? ⟨w.heap.size, k, none⟩ = false ∧ NmSt w (w3.setCell ⟨w.heap.size, k, none⟩ (.int .i64 (ks'.length : Nat))) mb n0 ks L (k + 1)) := ⟨fun w3 hM3 hg3 => by
          have hB3 : Bk w3 w.heap.size 3 (intV N) := KBk.out.far (hg3.block _ hglt (fun e => hmne (by injection e with e; exact e.symm)))
          refine ⟨hB3.cell k _ (intV_get hu0), hB3.frozen k, ⟨n' + 1, _, ks' ++ [s], N.set k ks'.length, ownsMap_far hM3 (Below.heap_setCell _ _ _ _ hmne), KN.out.add Try.underlying9 Ksm.out Kin.out, by omega, by rw [List.length_append, List.length_singleton]; omega, ?_, by simp [h6], ?_, fun j t hj ht => ?_⟩, ?_, hlt⟩
          · obtain ⟨r, hr⟩ := Kpre.out
            exact ⟨r ++ [s], by rw [hr, List.append_assoc]⟩
          · have := hB3.set k (.int .i64 (ks'.length : Nat))
            rw [intV_set] at this
            exact this
          · by_cases e : j = k
            · subst e
              have : t = s := by rw [Ksk.out] at ht; injection ht with ht; exact ht.symm
              subst this
              exact ⟨by simp, by rw [List.getElem?_set_self (by omega), nix_new Kin.out]⟩
            · rw [List.getElem?_set_ne (fun h => e h.symm)]
              obtain ⟨g1, g2⟩ := Kall.out j t (by omega) ht
              exact ⟨List.mem_append_left _ g1, by rw [nix_left g1]; exact g2⟩
          · exact (Kfx.out.trans (Fx.grown hg3) (fun i _ e => by injection e with e; exact e.symm)).trans (Fx.setCell _ _ _ _) (fun i hi e => by omega)⟩
        clear hh h1 h2 h3 h4 h6 h7 hu0 hfx hin hglt hgm hmne
        go_upto_region 9 with (first | (at_lookup; refine wpList_lookup_own_ok_int _ rfl _ _ 113 rfl 9 3 .i64 (Maps.string_keyed Try.underlying9) Try.underlying113 Try.underlying3 (zeroI _) mb n' D' rfl KM.out _ _ rfl KK.out ?_; intro c hat hwc; rw [KH.out]; clear hat hwc) | (at_mapUpdate; refine wpList_mapUpdate_own _ rfl _ _ _ 113 rfl 9 3 (Maps.string_keyed Try.underlying9) Try.underlying113 (plainElem Try.prog 3) mb n' D' rfl KM.out hnm _ _ _ rfl rfl KK.out _ _ KP.out ?_; intro w3 hown2 hgrow2; obtain ⟨hcg, hfz, hE⟩ := KE.out w3 hown2 hgrow2; have KE2 := Kept.mk hE; clear hown2 hgrow2 hE))
        clear KE hlen hcs hcm
        go_wp2
        go_roundw
        case rel => exact ⟨k + 1, by go_num, KE2.out⟩
        case measure => simp [intOf]; omega
    · have hki : ¬ (k : Int) < (L.length : Int) := by omega
      obtain rfl : k = L.length := by omega
      clear hst
      go_wp2
      go_ret
      exact ⟨rfl, KSt.out⟩
end Go.Proofs.Ytidpdhnbnecddaa
