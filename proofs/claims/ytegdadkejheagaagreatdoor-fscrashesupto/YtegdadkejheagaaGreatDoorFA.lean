/-
  A disk in memory: blocks, maps of texts, files, rows of changes.
-/
import Derived.Test.YtegdadkejheagaaGreatDoorN9
import Derived.Test.YtegdadkejheagaaGreatDoorQ2
import Derived.Test.YtegdadkejheagaaGreatDoorShelfI
import Derived.Maps.OwnSet
import Derived.Maps.Views
import Derived.Maps.Keyed
import Derived.Maps.Ext
import Derived.StringKeys
namespace Go.Proofs.YtegdadkejheagaaGreatDoor
open Go.RowKit Go.WideMaps

/-- A block holds these cells. -/
def Bk (w : World) (g : Nat) (T : TypeId) (cs : List Value) : Prop := w.heap[g]? = some (.cells cs.toArray T)
section
variable {w w' : World} {g : Nat} {T : TypeId} {cs : List Value}
theorem Bk.lt (h : Bk w g T cs) : g < w.heap.size := (Array.getElem?_eq_some_iff.1 h).1
theorem Bk.cell (h : Bk w g T cs) (j : Nat) (u : Value) (hu : cs[j]? = some u) : w.cell? ⟨g, j, none⟩ = some u := by
  rw [cell_of_row w g j _ T (0, 0) h]
  simpa using hu
theorem Bk.frozen (h : Bk w g T cs) (j : Nat) : w.frozen? ⟨g, j, none⟩ = false := by
  unfold Bk at h
  simp [World.frozen?, h]
theorem Bk.range (h : Bk w g T cs) : w.rangeAt g 0 cs := fun j u hu => by rw [Nat.zero_add]; exact h.cell j u hu
theorem Bk.set (h : Bk w g T cs) (j : Nat) (u : Value) : Bk (w.setCell ⟨g, j, none⟩ u) g T (cs.set j u) := by
  unfold Bk
  rw [heap_setCell_same w g j _ T u h]
  simp
theorem Bk.far (h : Bk w g T cs) (hb : w'.heap[g]? = w.heap[g]?) : Bk w' g T cs := by
  unfold Bk at h ⊢
  rw [hb]
  exact h
theorem Bk.new (w : World) (T : TypeId) (cs : List Value) : Bk (w.alloc (.cells cs.toArray T)) w.heap.size T cs := heap_alloc_new w _
end
/-- Of the blocks that were there only those of S may have turned. -/
structure Fx (S : Nat → Prop) (w w' : World) : Prop where
  os : w'.os = w.os
  tape : w'.tape = w.tape
  output : w'.output = w.output
  size : w.heap.size ≤ w'.heap.size
  block : ∀ k, k < w.heap.size → ¬ S k → w'.heap[k]? = w.heap[k]?
theorem Fx.refl (S : Nat → Prop) (w : World) : Fx S w w := ⟨rfl, rfl, rfl, Nat.le_refl _, fun _ _ _ => rfl⟩
theorem Fx.trans {S S' : Nat → Prop} {a b c : World} (h : Fx S a b) (k : Fx S' b c) (hS : ∀ i, i < a.heap.size → S' i → S i) : Fx S a c :=
  ⟨k.os.trans h.os, k.tape.trans h.tape, k.output.trans h.output, Nat.le_trans h.size k.size, fun i hi hn => (k.block i (Nat.lt_of_lt_of_le hi h.size) (fun hs => hn (hS i hi hs))).trans (h.block i hi hn)⟩
theorem Fx.weak {S S' : Nat → Prop} {a b : World} (h : Fx S a b) (hS : ∀ i, i < a.heap.size → S i → S' i) : Fx S' a b := ⟨h.os, h.tape, h.output, h.size, fun i hi hn => h.block i hi (fun hs => hn (hS i hi hs))⟩
theorem Fx.ofBelow {S : Nat → Prop} {B : Nat} {a b : World} (h : Below B a b) (hB : a.heap.size ≤ B) : Fx S a b := ⟨h.os, h.tape, h.output, h.size, fun i hi _ => h.block i (Nat.lt_of_lt_of_le hi hB)⟩
theorem Fx.below {S : Nat → Prop} {B : Nat} {a b : World} (h : Fx S a b) (hB : B ≤ a.heap.size) (hS : ∀ i, i < B → ¬ S i) : Below B a b := ⟨h.os, h.tape, h.output, h.size, fun i hi => h.block i (Nat.lt_of_lt_of_le hi hB) (hS i hi)⟩
theorem Fx.alloc (S : Nat → Prop) (w : World) (o : Obj) : Fx S w (w.alloc o) := Fx.ofBelow ((Below.refl w.heap.size w).alloc (Nat.le_refl _) o) (Nat.le_refl _)
theorem Fx.setCell (w : World) (g j : Nat) (u : Value) : Fx (fun k => k = g) w (w.setCell ⟨g, j, none⟩ u) := by
  refine ⟨rfl, rfl, rfl, by simp [World.setCell], fun k _ hk => ?_⟩
  rw [Below.heap_setCell _ _ _ _ hk]
theorem Fx.grown {w w' : World} {r : Option Nat} (h : w.grownBy w' r) : Fx (fun k => r = some k) w w' := ⟨h.os, h.tape, h.output, h.size, fun k hk hn => h.block k hk (fun e => hn e.symm)⟩

abbrev DV := DataW Value
/-- An element of a map, held as it stands. -/
def heldR (v : Value) : Option (DV × List MemPlace) := some (.held v, [])
def kl (s : ByteArray) : Lit := .string s.data.toList
theorem kl_inj {s t : ByteArray} (h : kl s = kl t) : s = t := by
  unfold kl at h
  injection h with h
  apply ByteArray.ext
  exact Array.ext' h
theorem key_str {s : ByteArray} (hs : s.size ≤ maxLen) : keyOf Tryz.prog 9 (.string s) = some (kl s) := WideMaps.keyOf_string_mk Tryz.underlying9 hs
theorem keyed_str : Maps.Keyed Tryz.prog 9 := Maps.string_keyed Tryz.underlying9
theorem key_lit {s : ByteArray} (hs : s.size ≤ maxLen) : WideAt.IsKeyLit (kl s) := keyed_str.key (key_str hs)
/-- A function turned at one place. -/
def upd {α β : Type} [DecidableEq α] (f : α → β) (a : α) (b : β) : α → β := fun x => if x = a then b else f x
theorem upd_same {α β : Type} [DecidableEq α] (f : α → β) (a : α) (b : β) : upd f a b a = b := by simp [upd]
theorem upd_other {α β : Type} [DecidableEq α] (f : α → β) {a x : α} (b : β) (h : x ≠ a) : upd f a b x = f x := by simp [upd, h]
theorem upd_map {α β γ : Type} [DecidableEq α] (f : α → Option β) (g : β → γ) (a : α) (b : Option β) : (fun x => (upd f a b x).map g) = upd (fun x => (f x).map g) a (b.map g) := by
  funext x
  unfold upd
  split <;> rfl
/-- What a map of texts holds, text by text. -/
structure MapIs (D : DV) (f : ByteArray → Option Value) : Prop where
  tidy : Maps.Tidy D
  yes : ∀ s v, f s = some v → Maps.has D (kl s) = true ∧ ∀ z, D.atKey (kl s) z = .held v
  no : ∀ s, f s = none → Maps.has D (kl s) = false
theorem MapIs.empty : MapIs (.map []) (fun _ => none) := ⟨Maps.tidy_empty, (fun _ _ h => nomatch h), fun _ _ => rfl⟩
theorem MapIs.put {D : DV} {f : ByteArray → Option Value} (h : MapIs D f) {s : ByteArray} (hs : s.size ≤ maxLen) (v : Value) : MapIs (D.put (kl s) (.held v)) (upd f s (some v)) := by
  have hk := key_lit hs
  refine ⟨h.tidy.put hk _, fun t u ht => ?_, fun t ht => ?_⟩
  · by_cases e : t = s
    · subst e
      rw [upd_same] at ht
      injection ht with ht
      subst ht
      exact ⟨Maps.has_put_same h.tidy.isMap hk _, fun z => Maps.atKey_put_same h.tidy.isMap hk _ _⟩
    · have hne : kl t ≠ kl s := fun h => e (kl_inj h)
      rw [upd_other _ _ e] at ht
      rw [Maps.has_put_other hne]
      exact ⟨(h.yes t u ht).1, fun z => by rw [Maps.atKey_put_other hne]; exact (h.yes t u ht).2 z⟩
  · by_cases e : t = s
    · subst e; rw [upd_same] at ht; cases ht
    · have hne : kl t ≠ kl s := fun h => e (kl_inj h)
      rw [upd_other _ _ e] at ht
      rw [Maps.has_put_other hne]
      exact h.no t ht
theorem MapIs.del {D : DV} {f : ByteArray → Option Value} (h : MapIs D f) (s : ByteArray) : MapIs (D.del (kl s)) (upd f s none) := by
  refine ⟨h.tidy.del _, fun t u ht => ?_, fun t ht => ?_⟩
  · by_cases e : t = s
    · subst e; rw [upd_same] at ht; cases ht
    · have hne : kl t ≠ kl s := fun h => e (kl_inj h)
      rw [upd_other _ _ e] at ht
      rw [Maps.has_del_other hne]
      exact ⟨(h.yes t u ht).1, fun z => by rw [Maps.atKey_del_other hne]; exact (h.yes t u ht).2 z⟩
  · by_cases e : t = s
    · subst e; exact Maps.has_del_same
    · have hne : kl t ≠ kl s := fun h => e (kl_inj h)
      rw [upd_other _ _ e] at ht
      rw [Maps.has_del_other hne]
      exact h.no t ht
/-- A map of texts in memory, or nil. -/
def MapAt (w : World) (mb : Option Nat) (n : Nat) (f : ByteArray → Option Value) : Prop :=
  match mb with
  | none => ∀ s, f s = none
  | some b => ∃ D, w.ownsMap Tryz.prog 9 heldR b n D ∧ MapIs D f
theorem MapAt.far {w w' : World} {mb : Option Nat} {n m : Nat} {f : ByteArray → Option Value} (h : MapAt w mb n f) (hb : ∀ b, mb = some b → w'.heap[b]? = w.heap[b]?) (hn : n ≤ m) : MapAt w' mb m f := by
  cases mb with
  | none => exact h
  | some b =>
    obtain ⟨D, ⟨es, clock, h1, h2, h3, h4⟩, h5⟩ := h
    exact ⟨D, ⟨es, clock, by rw [hb b rfl]; exact h1, h2, Nat.le_trans h3 hn, h4⟩, h5⟩
theorem MapAt.lt {w : World} {b n : Nat} {f : ByteArray → Option Value} (h : MapAt w (some b) n f) : b < w.heap.size := by
  obtain ⟨D, h1, -⟩ := h
  exact h1.lt
theorem MapAt.notBk {w : World} {b n : Nat} {f : ByteArray → Option Value} (h : MapAt w (some b) n f) {T : TypeId} {cs : Array Value} {q : Nat × Nat} : w.heap[b]? ≠ some (.cells cs T q) := by
  obtain ⟨D, ⟨es, clock, h1, -⟩, -⟩ := h
  rw [h1]
  intro e
  injection e with e
  cases e
theorem MapAt.made (w : World) (n : Nat) : MapAt (w.alloc (.map #[] 0)) (some w.heap.size) n (fun _ => none) := ⟨.map [], (World.ownsMap_made w _ _ _).mono (Nat.zero_le _), MapIs.empty⟩
set_option maxRecDepth 100000 in
/-- Looking a text up. -/
theorem MapAt.look {w : World} {mb : Option Nat} {n : Nat} {f : ByteArray → Option Value} (h : MapAt w mb n f) {t e : TypeId} (ht : Tryz.prog.underlying t = some (.map 9 e)) {z : Value} (hz : (zeroValue e).run Tryz.prog w = .ok z w) {s : ByteArray} (hs : s.size ≤ maxLen) :
    (Instr.lookup t (.map mb) (.string s) false).run Tryz.prog w = .ok ((f s).getD z) w := by
  cases mb with
  | none =>
    rw [Maps.look_nil false keyed_str ht hz (key_str hs), h s]
    rfl
  | some b =>
    obtain ⟨D, h1, h2⟩ := h
    obtain ⟨v, ps, hr, hv⟩ := h1.lookup keyed_str ht hz (zd := .held z) (zp := []) rfl (key_str hs)
    have e : v = (f s).getD z := by
      simp only [heldR, Option.some.injEq, Prod.mk.injEq] at hv
      cases hf : f s with
      | some u =>
        rw [(h2.yes s u hf).2] at hv
        injection hv.1
      | none =>
        rw [Maps.atKey_of_not_has (h2.no s hf)] at hv
        injection hv.1
    rw [hr, e]
set_option maxRecDepth 100000 in
theorem zero_ptr (w : World) : (zeroValue 70).run Tryz.prog w = .ok (.pointer none) w := by kernel_rfl
set_option maxRecDepth 100000 in
theorem zero_row (w : World) : (zeroValue 100).run Tryz.prog w = .ok (.slice none 0 0) w := by kernel_rfl
section
variable {ops : Array Oper} {rest : List Oper} {o : Oper} {a : Act} {Q : Exit → Act → World → Prop}
set_option maxRecDepth 100000 in
/-- A store at a text, at the operation. -/
theorem wpList_put (w : World) (hg : o.guard = none) (m x v : Operand) (t e : TypeId) (hop : o.op = Op.mapUpdate t m x v) (ht : Tryz.prog.underlying t = some (.map 9 e)) (b n : Nat) (f : ByteArray → Option Value)
    (hm : a.eval m = .map (some b)) (hown : MapAt w (some b) n f) (hn : n < maxLen) (s : ByteArray) (hs : s.size ≤ maxLen) (u : Value) (hx : a.eval x = .string s) (hv : a.eval v = u)
    (hK : ∀ w', MapAt w' (some b) (n + 1) (upd f s (some u)) → Fx (fun i => i = b) w w' → wpList Tryz.prog ops Q rest (a.put o.dst undef) w') :
    wpList Tryz.prog ops Q (o :: rest) a w := by
  obtain ⟨D, h1, h2⟩ := hown
  exact wpList_mapUpdate_in w hg m x v t hop 9 e keyed_str ht heldR b n D hm h1 hn (.string s) u (kl s) hx hv (key_str hs) (.held u) [] rfl (fun w' h3 h4 => hK w' ⟨_, h3, h2.put hs u⟩ ((Fx.grown h4.grown).weak (fun i _ h => by injection h with h; exact h.symm)))
set_option maxRecDepth 100000 in
/-- A deletion, at the operation; a nil map too. -/
theorem wpList_del (w : World) (hg : o.guard = none) (m x : Operand) (t e : TypeId) (hop : o.op = Op.call { callee := Callee.builtin Builtin.delete, args := #[m, x], argTypes := #[t, 9] }) (ht : Tryz.prog.underlying t = some (.map 9 e)) (mb : Option Nat) (n : Nat) (f : ByteArray → Option Value)
    (hm : a.eval m = .map mb) (hown : MapAt w mb n f) (s : ByteArray) (hs : s.size ≤ maxLen) (hx : a.eval x = .string s)
    (hK : ∀ w', MapAt w' mb n (upd f s none) → Fx (fun i => mb = some i) w w' → wpList Tryz.prog ops Q rest (a.put o.dst (.tuple #[])) w') :
    wpList Tryz.prog ops Q (o :: rest) a w := by
  cases mb with
  | some b =>
    obtain ⟨D, h1, h2⟩ := hown
    exact wpList_delete_own w hg m x t 9 hop e keyed_str ht heldR b n D hm h1 (.string s) (kl s) hx (key_str hs) (fun w' h3 h4 => hK w' ⟨_, h3, h2.del s⟩ (Fx.grown h4.grown))
  | none =>
    refine wpList_plain hg fun K' hK' => ?_
    have hr := Maps.drop_nil (w := w) keyed_str ht (key_str hs) o.type
    unfold Oper.wp
    simp [execOp, hop, resolve, invoke, builtin, hm, hx, hr, Result.andThen]
    refine hK' _ _ (hK w (fun t => ?_) (Fx.refl _ _))
    by_cases e : t = s
    · subst e
      exact upd_same _ _ _
    · rw [upd_other _ _ e]
      exact hown t
end
def ptrV (o : Option Nat) : Value := .pointer (o.map fun b => ⟨b, 0, none⟩)
/-- A file's bytes, as its slice and as numbers, and how many are synced. -/
structure FileC where
  v : Value
  xs : List Int
  s : Nat
structure FileAt (w : World) (B : Nat → Prop) (f : Nat) (c : FileC) : Prop where
  blk : Bk w f 73 [c.v, .int .i64 (c.s : Nat)]
  inB : B f
  own : Own .u8 5 w 0 c.v c.xs
  ownB : ∀ g, c.v.ownBlock = some g → B g
  all : AllB c.xs
  le : c.s ≤ c.xs.length
  big : c.xs.length ≤ 2097152
theorem FileAt.far {w w' : World} {B B' : Nat → Prop} {f : Nat} {c : FileC} (h : FileAt w B f c) (h1 : w'.heap[f]? = w.heap[f]?) (h2 : ∀ g, c.v.ownBlock = some g → w'.heap[g]? = w.heap[g]?) (hB : ∀ i, i < w.heap.size → B i → B' i) : FileAt w' B' f c :=
  ⟨h.blk.far h1, hB _ h.blk.lt h.inB, h.own.far h2, fun g hg => hB g (h.own.lt g hg).2 (h.ownB g hg), h.all, h.le, h.big⟩
/-- A change of names: the path that went, and the one that has a file then. -/
structure Chg where
  gone : ByteArray
  nw : Option (ByteArray × Nat)
def Chg.made (c : Chg) : ByteArray := match c.nw with | some (p, _) => p | none => ByteArray.empty
def Chg.file (c : Chg) : Option Nat := c.nw.map Prod.snd
def Chg.cs (c : Chg) : List Value := [.string c.gone, .string c.made, ptrV c.file]
def Chg.v (c : Chg) : Value := .agg #[.string c.gone, .string c.made, ptrV c.file]
structure Chg.Ok (c : Chg) : Prop where
  gone : c.gone.size ≤ 200
  nw : ∀ p f, c.nw = some (p, f) → 1 ≤ p.size ∧ p.size ≤ 200
theorem Chg.Ok.made {c : Chg} (h : c.Ok) : c.made.size ≤ 200 := by
  unfold Chg.made
  split
  · rename_i p f e; exact (h.nw p f e).2
  · exact Nat.zero_le _
/-- Names behind a change. -/
def apl (N : ByteArray → Option Nat) (c : Chg) : ByteArray → Option Nat :=
  match c.nw with
  | none => upd N c.gone none
  | some (p, f) => upd (upd N c.gone none) p (some f)
structure RowC (w : World) (B : Nat → Prop) (v : Value) (l : List Chg) : Prop where
  own : w.ownsRow 0 90 3 v l.length (l.flatMap Chg.cs)
  ownB : ∀ g, v.ownBlock = some g → B g
  ok : ∀ c ∈ l, c.Ok
  ne : l ≠ []
theorem ownsRow_far {w w' : World} {base : Nat} {e : TypeId} {size n : Nat} {v : Value} {xs : List Value} (h : w.ownsRow base e size v n xs) (hb : ∀ g, v.ownBlock = some g → w'.heap[g]? = w.heap[g]?) : w'.ownsRow base e size v n xs := by
  rcases h with ⟨h1, h2⟩
  refine ⟨h1, ?_⟩
  rcases h2 with h2 | ⟨g, cap, cur, rfl, hg, hh, r⟩
  · exact Or.inl h2
  · exact Or.inr ⟨g, cap, cur, rfl, hg, by rw [hb g rfl]; exact hh, r⟩
theorem ownsRow_blk {w : World} {base : Nat} {e : TypeId} {size n : Nat} {v : Value} {xs : List Value} (h : w.ownsRow base e size v n xs) {g : Nat} (hg : v.ownBlock = some g) : ∃ cur, w.heap[g]? = some (.cells cur e (0, 0)) := by
  rcases h.2 with ⟨h2, -⟩ | ⟨g', cap, cur, rfl, -, hh, -⟩
  · subst h2; cases hg
  · simp only [Value.ownBlock, Option.some.injEq] at hg
    subst hg
    exact ⟨cur, hh⟩
theorem ownsRow_lt {w : World} {base : Nat} {e : TypeId} {size n : Nat} {v : Value} {xs : List Value} (h : w.ownsRow base e size v n xs) {g : Nat} (hg : v.ownBlock = some g) : g < w.heap.size := by
  obtain ⟨cur, hc⟩ := ownsRow_blk h hg
  exact (Array.getElem?_eq_some_iff.1 hc).1
theorem RowC.far {w w' : World} {B B' : Nat → Prop} {v : Value} {l : List Chg} (h : RowC w B v l) (h2 : ∀ g, v.ownBlock = some g → w'.heap[g]? = w.heap[g]?) (hB : ∀ i, i < w.heap.size → B i → B' i) : RowC w' B' v l :=
  ⟨ownsRow_far h.own h2, fun g hg => hB g (ownsRow_lt h.own hg) (h.ownB g hg), h.ok, h.ne⟩
/-- The calls that a plan refuses. -/
def RefAt (w : World) (rb : Option Nat) (n : Nat) (R : Int → Bool) : Prop :=
  match rb with
  | none => ∀ i, R i = false
  | some b => ∃ D : DV, w.ownsMap Tryz.prog 3 unitElem b n D ∧ Maps.Tidy D ∧ ∀ i, Maps.has D (.int .i64 i) = R i
theorem RefAt.far {w w' : World} {mb : Option Nat} {n m : Nat} {f : Int → Bool} (h : RefAt w mb n f) (hb : ∀ b, mb = some b → w'.heap[b]? = w.heap[b]?) (hn : n ≤ m) : RefAt w' mb m f := by
  cases mb with
  | none => exact h
  | some b =>
    obtain ⟨D, ⟨es, clock, h1, h2, h3, h4⟩, h5⟩ := h
    exact ⟨D, ⟨es, clock, by rw [hb b rfl]; exact h1, h2, Nat.le_trans h3 hn, h4⟩, h5⟩
theorem RefAt.lt {w : World} {b n : Nat} {f : Int → Bool} (h : RefAt w (some b) n f) : b < w.heap.size := by
  obtain ⟨D, h1, -⟩ := h
  exact h1.lt
theorem RefAt.notBk {w : World} {b n : Nat} {f : Int → Bool} (h : RefAt w (some b) n f) {T : TypeId} {cs : Array Value} {q : Nat × Nat} : w.heap[b]? ≠ some (.cells cs T q) := by
  obtain ⟨D, ⟨es, clock, h1, -⟩, -⟩ := h
  rw [h1]
  intro e
  injection e with e
  cases e
/-- What a disk is. -/
structure St where
  quota : Int
  used : Int
  bn : Option Nat
  bl : Option Nat
  bp : Option Nat
  rb : Option Nat
  last : Int
  count : Int
  dark : Bool
  N : ByteArray → Option Nat
  L : ByteArray → Option Nat
  C : ByteArray → Option (Value × List Chg)
  R : Int → Bool
  F : Nat → Option FileC
  m : Nat
def nmV (N : ByteArray → Option Nat) : ByteArray → Option Value := fun p => (N p).map fun f => ptrV (some f)
def rwV (C : ByteArray → Option (Value × List Chg)) : ByteArray → Option Value := fun p => (C p).map Prod.fst
/-- All that a disk leads to lies in B. -/
structure Bd (w : World) (B : Nat → Prop) (S : St) (n : Nat) : Prop where
  mN : MapAt w S.bn n (nmV S.N)
  mL : MapAt w S.bl n (nmV S.L)
  mC : MapAt w S.bp n (rwV S.C)
  mR : RefAt w S.rb n S.R
  bB : ∀ b, S.bn = some b ∨ S.bl = some b ∨ S.bp = some b ∨ S.rb = some b → B b
  sp : ∀ b, (S.bn = some b → S.bl ≠ some b ∧ S.bp ≠ some b ∧ S.rb ≠ some b) ∧ (S.bl = some b → S.bp ≠ some b ∧ S.rb ≠ some b) ∧ (S.bp = some b → S.rb ≠ some b)
  nl : (S.bn = none ↔ S.bl = none) ∧ (S.bn = none ↔ S.bp = none)
  fl : ∀ f c, S.F f = some c → FileAt w B f c
  fA : ∀ f g c e r, f ≠ g → S.F f = some c → S.F g = some e → c.v.ownBlock = some r → e.v.ownBlock ≠ some r
  nF : ∀ p f, S.N p = some f → ∃ c, S.F f = some c
  lF : ∀ p f, S.L p = some f → ∃ c, S.F f = some c
  cF : ∀ p v l c f, S.C p = some (v, l) → c ∈ l → c.file = some f → ∃ e, S.F f = some e
  rw : ∀ p v l, S.C p = some (v, l) → RowC w B v l ∧ l.length ≤ S.m
  rA : ∀ p q v u l m r, p ≠ q → S.C p = some (v, l) → S.C q = some (u, m) → v.ownBlock = some r → u.ownBlock ≠ some r
  kz : ∀ p, S.N p ≠ none ∨ S.L p ≠ none ∨ S.C p ≠ none → p.size ≤ 200
def St.cs (S : St) : List Value := [.int .i64 S.quota, .int .i64 S.used, .map S.bn, .map S.bl, .map S.bp, .map S.rb, .int .i64 S.last, .int .i64 S.count, .bool S.dark]
/-- A disk in memory. -/
structure Dk (w : World) (B : Nat → Prop) (d : Nat) (S : St) (n : Nat) : Prop where
  blk : Bk w d 59 S.cs
  inB : B d
  bd : Bd w B S n
/-- All pieces of a disk but its own block stay where nothing turns but blocks of the type T. -/
theorem Bd.far {w w' : World} {B B' : Nat → Prop} {S : St} {n m : Nat} (h : Bd w B S n) (hb : ∀ i, i < w.heap.size → B i → w'.heap[i]? = w.heap[i]? ∨ ∃ cs, w.heap[i]? = some (.cells cs 59 (0, 0))) (hB : ∀ i, i < w.heap.size → B i → B' i) (hn : n ≤ m) : Bd w' B' S m := by
  have hm : ∀ {mb f}, MapAt w mb n f → (∀ b, mb = some b → B b) → MapAt w' mb m f := fun {mb f} hM hBm => hM.far (fun b hb' => by
    subst hb'
    rcases hb b hM.lt (hBm b rfl) with h' | ⟨cs, h'⟩
    · exact h'
    · exact absurd h' hM.notBk) hn
  have hr : RefAt w' S.rb m S.R := h.mR.far (fun b hb' => by
    have hM := h.mR
    rw [hb'] at hM
    rcases hb b hM.lt (h.bB b (.inr (.inr (.inr hb')))) with h' | ⟨cs, h'⟩
    · exact h'
    · exact absurd h' hM.notBk) hn
  have hc : ∀ {g cur e}, w.heap[g]? = some (.cells cur e (0, 0)) → e ≠ 59 → B g → w'.heap[g]? = w.heap[g]? := fun {g cur e} hg he hBg => by
    rcases hb g (Array.getElem?_eq_some_iff.1 hg).1 hBg with h' | ⟨cs, h'⟩
    · exact h'
    · rw [hg] at h'
      injection h' with h'
      injection h' with _ h'
      exact absurd h' he
  exact {
    mN := hm h.mN (fun b e => h.bB b (.inl e))
    mL := hm h.mL (fun b e => h.bB b (.inr (.inl e)))
    mC := hm h.mC (fun b e => h.bB b (.inr (.inr (.inl e))))
    mR := hr
    bB := fun b hx => by
      refine hB b ?_ (h.bB b hx)
      rcases hx with e | e | e | e
      · have := h.mN; rw [e] at this; exact this.lt
      · have := h.mL; rw [e] at this; exact this.lt
      · have := h.mC; rw [e] at this; exact this.lt
      · have := h.mR; rw [e] at this; exact this.lt
    sp := h.sp
    nl := h.nl
    fl := fun f c hf => (h.fl f c hf).far (hc (h.fl f c hf).blk (by decide) (h.fl f c hf).inB) (fun g hg => by
      obtain ⟨cur, hcur⟩ := ownsRow_blk (h.fl f c hf).own hg
      exact hc hcur (by decide) ((h.fl f c hf).ownB g hg)) hB
    fA := h.fA
    nF := h.nF
    lF := h.lF
    cF := h.cF
    rw := fun p v l hp => ⟨(h.rw p v l hp).1.far (fun g hg => by
      obtain ⟨cur, hcur⟩ := ownsRow_blk (h.rw p v l hp).1.own hg
      exact hc hcur (by decide) ((h.rw p v l hp).1.ownB g hg)) hB, (h.rw p v l hp).2⟩
    rA := h.rA
    kz := h.kz }
theorem Dk.far {w w' : World} {B B' : Nat → Prop} {d : Nat} {S : St} {n m : Nat} (h : Dk w B d S n) (hb : ∀ i, i < w.heap.size → B i → w'.heap[i]? = w.heap[i]?) (hB : ∀ i, i < w.heap.size → B i → B' i) (hn : n ≤ m) : Dk w' B' d S m :=
  ⟨h.blk.far (hb d h.blk.lt h.inB), hB d h.blk.lt h.inB, h.bd.far (fun i hi hBi => .inl (hb i hi hBi)) hB hn⟩
theorem Dk.later {w w' : World} {B : Nat → Prop} {d : Nat} {S : St} {n : Nat} (h : Dk w B d S n) (hb : Below w.heap.size w w') : Dk w' B d S n :=
  h.far (fun i hi _ => hb.block i hi) (fun _ _ h => h) (Nat.le_refl _)
/-- A cell of a disk's own block is set. -/
theorem Dk.setCell {w : World} {B : Nat → Prop} {d : Nat} {S S' : St} {n : Nat} (h : Dk w B d S n) (j : Nat) (u : Value) (hcs : S.cs.set j u = S'.cs) (hbd : Bd w B S n → Bd w B S' n) : Dk (w.setCell ⟨d, j, none⟩ u) B d S' n := by
  refine ⟨?_, h.inB, ?_⟩
  · rw [← hcs]; exact h.blk.set j u
  · refine (hbd h.bd).far (fun i _ _ => ?_) (fun _ _ h => h) (Nat.le_refl _)
    by_cases e : i = d
    · subst e; exact .inr ⟨_, h.blk⟩
    · exact .inl (Below.heap_setCell _ _ _ _ e)
/-- The fields of a disk that its body does not speak of. -/
theorem Bd.fields {w : World} {B : Nat → Prop} {S : St} {n : Nat} (h : Bd w B S n) (q u l c : Int) (k : Bool) : Bd w B { S with quota := q, used := u, last := l, count := c, dark := k } n :=
  { mN := h.mN, mL := h.mL, mC := h.mC, mR := h.mR, bB := h.bB, sp := h.sp, nl := h.nl, fl := h.fl, fA := h.fA, nF := h.nF, lF := h.lF, cF := h.cF, rw := h.rw, rA := h.rA, kz := h.kz }
end Go.Proofs.YtegdadkejheagaaGreatDoor
