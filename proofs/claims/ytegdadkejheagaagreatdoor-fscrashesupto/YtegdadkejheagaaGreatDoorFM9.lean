/-
  Pure: the document's names, a rising list: Put, At, change.
-/
import Derived.Test.YtegdadkejheagaaGreatDoorFL0
import Derived.Sort.Walk0
namespace Go.Proofs.YtegdadkejheagaaGreatDoor
open Go.RowKit Go.WideMaps Go.Maps

abbrev NL := List (ByteArray × Nat)
def ltA (a b : ByteArray) : Prop := a.data.toList < b.data.toList
theorem ltA_trans {a b c : ByteArray} (h : ltA a b) (k : ltA b c) : ltA a c := List.lt_trans h k
theorem ltA_irr (a : ByteArray) : ¬ ltA a a := List.lt_irrefl _
theorem ltA_ne {a b : ByteArray} (h : ltA a b) : a ≠ b := fun e => by subst e; exact ltA_irr a h
theorem ba_ext {a b : ByteArray} (h : a.data.toList = b.data.toList) : a = b := ByteArray.ext (Array.ext' h)
theorem ltA_tri (a b : ByteArray) : ltA a b ∨ a = b ∨ ltA b a := by
  by_cases h : a.data.toList < b.data.toList
  · exact .inl h
  · by_cases k : b.data.toList < a.data.toList
    · exact .inr (.inr k)
    · exact .inr (.inl (ba_ext (List.le_antisymm (List.not_lt.1 k) (List.not_lt.1 h))))
theorem ltA_asymm {a b : ByteArray} (h : ltA a b) : ¬ ltA b a := fun k => ltA_irr a (ltA_trans h k)
/-- Is a text at most another? As the machine has it. -/
def leB (a b : ByteArray) : Bool := Op.bytesLess a.toList b.toList || a.toList == b.toList
theorem leB_iff {a b : ByteArray} : leB a b = true ↔ ltA a b ∨ a = b := by
  unfold leB ltA
  rw [Bool.or_eq_true, bytesLess_eq, decide_eq_true_iff, Lib.toList_data, Lib.toList_data]
  constructor
  · rintro (h | h)
    · exact .inl h
    · exact .inr (ba_ext (by simpa using h))
  · rintro (h | rfl)
    · exact .inl h
    · exact .inr (by simp)
theorem leB_false {a b : ByteArray} : leB a b = false ↔ ltA b a := by
  constructor
  · intro h
    rcases ltA_tri a b with h' | h' | h'
    · rw [leB_iff.2 (.inl h')] at h; cases h
    · rw [leB_iff.2 (.inr h')] at h; cases h
    · exact h'
  · intro h
    cases hc : leB a b with
    | false => rfl
    | true =>
      rcases leB_iff.1 hc with h' | h'
      · exact absurd h' (ltA_asymm h)
      · subst h'; exact absurd h (ltA_irr _)
/-- The document's Put, a name at a time. -/
def putO (p : ByteArray) (f : Nat) (s : NL × Bool) (x : ByteArray × Nat) : NL × Bool :=
  (if x.1 = p then (if s.2 = false ∧ leB p x.1 = true then s.1 ++ [(p, f)] else s.1) else (if s.2 = false ∧ leB p x.1 = true then s.1 ++ [(p, f)] else s.1) ++ [x], s.2 || leB p x.1)
def putF (l : NL) (p : ByteArray) (f : Nat) : NL := if (l.foldl (putO p f) ([], decide (f = 0))).2 = true then (l.foldl (putO p f) ([], decide (f = 0))).1 else (l.foldl (putO p f) ([], decide (f = 0))).1 ++ [(p, f)]
def lk : NL → ByteArray → Option Nat
  | [], _ => none
  | x :: l, p => if x.1 = p then some x.2 else lk l p
def del (p : ByteArray) (l : NL) : NL := l.filter fun x => decide (x.1 ≠ p)
def ins (p : ByteArray) (f : Nat) : NL → NL
  | [] => [(p, f)]
  | x :: l => if x.1 = p then (p, f) :: l else if leB p x.1 = true then (p, f) :: x :: l else x :: ins p f l
def Srt (l : NL) : Prop := l.Pairwise fun a b => ltA a.1 b.1
theorem put_done (p : ByteArray) (f : Nat) : ∀ (l : NL) (m : NL), l.foldl (putO p f) (m, true) = (m ++ del p l, true)
  | [], m => by simp [del]
  | x :: l, m => by
    rw [List.foldl_cons]
    have : putO p f (m, true) x = (if x.1 = p then m else m ++ [x], true) := by
      unfold putO
      simp
    rw [this, put_done p f l]
    unfold del
    by_cases e : x.1 = p
    · simp [e]
    · simp [e]
theorem del_all {p : ByteArray} {l : NL} (h : ∀ x ∈ l, x.1 ≠ p) : del p l = l := by
  unfold del
  rw [List.filter_eq_self]
  intro x hx
  simpa using h x hx
theorem put_go (p : ByteArray) (f : Nat) : ∀ (l : NL) (m : NL), Srt l → (let s := l.foldl (putO p f) (m, false); if s.2 = true then s.1 else s.1 ++ [(p, f)]) = m ++ ins p f l
  | [], m, _ => by simp [ins]
  | x :: l, m, h => by
    have h1 := (List.pairwise_cons.1 h).1
    have h2 := (List.pairwise_cons.1 h).2
    rw [List.foldl_cons]
    by_cases e : x.1 = p
    · have hle : leB p x.1 = true := leB_iff.2 (.inr e.symm)
      have : putO p f (m, false) x = (m ++ [(p, f)], true) := by
        unfold putO
        rw [if_pos e, if_pos ⟨rfl, hle⟩, hle]
        rfl
      rw [this, put_done, del_all (fun y hy => fun e2 => ltA_ne (h1 y hy) (e.trans e2.symm))]
      simp [ins, e]
    · cases hle : leB p x.1 with
      | true =>
        have hlt : ltA p x.1 := (leB_iff.1 hle).resolve_right (fun e' => e e'.symm)
        have : putO p f (m, false) x = (m ++ [(p, f)] ++ [x], true) := by
          unfold putO
          rw [if_neg e, if_pos ⟨rfl, hle⟩, hle]
          rfl
        rw [this, put_done, del_all (fun y hy => fun e2 => by have := ltA_trans hlt (h1 y hy); rw [e2] at this; exact ltA_irr _ this)]
        simp [ins, e, hle]
      | false =>
        have : putO p f (m, false) x = (m ++ [x], false) := by
          unfold putO
          rw [if_neg e, if_neg (fun h => by rw [hle] at h; exact absurd h.2 (by decide)), hle]
          rfl
        rw [this, put_go p f l (m ++ [x]) h2]
        simp [ins, e, hle]
theorem putF_zero (l : NL) (p : ByteArray) : putF l p 0 = del p l := by
  unfold putF
  rw [show decide ((0 : Nat) = 0) = true from rfl, put_done]
  simp
theorem putF_ins {l : NL} (h : Srt l) (p : ByteArray) {f : Nat} (hf : f ≠ 0) : putF l p f = ins p f l := by
  have := put_go p f l [] h
  unfold putF
  rw [decide_eq_false hf]
  simpa using this
theorem lk_del (p q : ByteArray) : ∀ l : NL, lk (del p l) q = if q = p then none else lk l q
  | [] => by simp [del, lk]
  | x :: l => by
    have ih := lk_del p q l
    unfold del at *
    by_cases e : x.1 = p
    · rw [List.filter_cons_of_neg (by simp [e]), ih]
      by_cases e2 : q = p
      · rw [if_pos e2, if_pos e2]
      · rw [if_neg e2, if_neg e2]
        show _ = if x.1 = q then _ else _
        rw [if_neg (fun e3 => e2 (e3.symm.trans e))]
    · rw [List.filter_cons_of_pos (by simp [e])]
      show (if x.1 = q then _ else _) = _
      rw [ih]
      show _ = if q = p then none else if x.1 = q then _ else _
      by_cases e2 : q = p
      · subst e2
        rw [if_neg e, if_pos rfl, if_pos rfl]
      · rw [if_neg e2, if_neg e2]
theorem lk_low {l : NL} {p : ByteArray} (h : ∀ x ∈ l, ltA p x.1) : lk l p = none := by
  induction l with
  | nil => rfl
  | cons x l ih =>
    show (if x.1 = p then _ else _) = _
    rw [if_neg (fun e => by have := h x (by simp); rw [e] at this; exact ltA_irr _ this)]
    exact ih (fun y hy => h y (by simp [hy]))
theorem lk_ins (p q : ByteArray) (f : Nat) : ∀ l : NL, Srt l → lk (ins p f l) q = if q = p then some f else lk l q
  | [], _ => by
    show (if p = q then some f else none) = if q = p then some f else none
    by_cases e : q = p
    · rw [if_pos e, if_pos e.symm]
    · rw [if_neg e, if_neg (fun h => e h.symm)]
  | x :: l, h => by
    have h1 := (List.pairwise_cons.1 h).1
    have h2 := (List.pairwise_cons.1 h).2
    unfold ins
    by_cases e : x.1 = p
    · rw [if_pos e]
      show (if p = q then some f else lk l q) = if q = p then some f else if x.1 = q then some x.2 else lk l q
      by_cases e2 : q = p
      · rw [if_pos e2, if_pos e2.symm]
      · rw [if_neg e2, if_neg (fun h => e2 h.symm), if_neg (fun h => e2 (h.symm.trans e))]
    · rw [if_neg e]
      cases hle : leB p x.1 with
      | true =>
        rw [if_pos rfl]
        show (if p = q then some f else lk (x :: l) q) = _
        by_cases e2 : q = p
        · rw [if_pos e2, if_pos e2.symm]
        · rw [if_neg e2, if_neg (fun h => e2 h.symm)]
      | false =>
        rw [if_neg (by decide)]
        show (if x.1 = q then some x.2 else lk (ins p f l) q) = if q = p then some f else if x.1 = q then some x.2 else lk l q
        rw [lk_ins p q f l h2]
        by_cases e2 : q = p
        · subst e2
          rw [if_neg e, if_pos rfl, if_pos rfl]
        · rw [if_neg e2, if_neg e2]
theorem srt_del {l : NL} (h : Srt l) (p : ByteArray) : Srt (del p l) := List.Pairwise.filter _ h
theorem mem_ins {p : ByteArray} {f : Nat} {y : ByteArray × Nat} : ∀ {l : NL}, y ∈ ins p f l → y = (p, f) ∨ y ∈ l
  | [], h => by simp [ins] at h; exact .inl h
  | x :: l, h => by
    unfold ins at h
    split at h
    · rcases List.mem_cons.1 h with h | h
      · exact .inl h
      · exact .inr (by simp [h])
    · split at h
      · rcases List.mem_cons.1 h with h | h
        · exact .inl h
        · exact .inr h
      · rcases List.mem_cons.1 h with h | h
        · exact .inr (by simp [h])
        · rcases mem_ins h with h | h
          · exact .inl h
          · exact .inr (by simp [h])
theorem srt_ins {p : ByteArray} {f : Nat} : ∀ {l : NL}, Srt l → Srt (ins p f l)
  | [], _ => by simp [ins, Srt]
  | x :: l, h => by
    have h1 := (List.pairwise_cons.1 h).1
    have h2 := (List.pairwise_cons.1 h).2
    unfold ins
    split
    · rename_i e
      exact List.pairwise_cons.2 ⟨fun y hy => by rw [← e]; exact h1 y hy, h2⟩
    · rename_i e
      split
      · rename_i hle
        have hlt : ltA p x.1 := (leB_iff.1 hle).resolve_right (fun e' => e e'.symm)
        refine List.pairwise_cons.2 ⟨fun y hy => ?_, h⟩
        rcases List.mem_cons.1 hy with rfl | hy
        · exact hlt
        · exact ltA_trans hlt (h1 y hy)
      · rename_i hle
        have hlt : ltA x.1 p := leB_false.1 (by simpa using hle)
        refine List.pairwise_cons.2 ⟨fun y hy => ?_, srt_ins h2⟩
        rcases mem_ins hy with rfl | hy
        · exact hlt
        · exact h1 y hy
theorem srt_put {l : NL} (h : Srt l) (p : ByteArray) (f : Nat) : Srt (putF l p f) := by
  by_cases hf : f = 0
  · subst hf; rw [putF_zero]; exact srt_del h p
  · rw [putF_ins h p hf]; exact srt_ins h
theorem lk_put {l : NL} (h : Srt l) (p q : ByteArray) (f : Nat) : lk (putF l p f) q = if q = p then (if f = 0 then none else some f) else lk l q := by
  by_cases hf : f = 0
  · subst hf; rw [putF_zero, lk_del, if_pos rfl]
  · rw [putF_ins h p hf, lk_ins p q f l h, if_neg hf]
theorem mem_put {l : NL} (h : Srt l) {p : ByteArray} {f : Nat} {y : ByteArray × Nat} (hy : y ∈ putF l p f) : (f ≠ 0 ∧ y = (p, f)) ∨ y ∈ l := by
  by_cases hf : f = 0
  · subst hf
    rw [putF_zero] at hy
    exact .inr (List.mem_filter.1 hy).1
  · rw [putF_ins h p hf] at hy
    rcases mem_ins hy with h | h
    · exact .inl ⟨hf, h⟩
    · exact .inr h
theorem put_len (l : NL) (h : Srt l) (p : ByteArray) (f : Nat) : (putF l p f).length ≤ l.length + 1 := by
  by_cases hf : f = 0
  · subst hf
    rw [putF_zero]
    have : (del p l).length ≤ l.length := List.length_filter_le _ _
    omega
  · rw [putF_ins h p hf]
    have : ∀ l : NL, (ins p f l).length ≤ l.length + 1 := fun l => by
      induction l with
      | nil => simp [ins]
      | cons x l ih =>
        unfold ins
        split
        · simp
        · split
          · simp
          · simp; exact ih
    exact this l
/-- A pending change, the document's way: a path, where it comes from, its file (0: none). -/
structure PnC where
  path : ByteArray
  frm : ByteArray
  file : Nat
def chgF (l : NL) (c : PnC) : NL := putF (if c.frm = ByteArray.empty then l else putF l c.frm 0) c.path c.file
theorem srt_chg {l : NL} (h : Srt l) (c : PnC) : Srt (chgF l c) := by
  unfold chgF
  split
  · exact srt_put h _ _
  · exact srt_put (srt_put h _ _) _ _
theorem lk_chg {l : NL} (h : Srt l) (c : PnC) (q : ByteArray) : lk (chgF l c) q = if q = c.path then (if c.file = 0 then none else some c.file) else if c.frm ≠ ByteArray.empty ∧ q = c.frm then none else lk l q := by
  unfold chgF
  split
  · rename_i e
    rw [lk_put h]
    split
    · rfl
    · rw [if_neg (fun h => h.1 e)]
  · rename_i e
    rw [lk_put (srt_put h _ _), lk_put h]
    split
    · rfl
    · by_cases e2 : q = c.frm
      · rw [if_pos e2, if_pos rfl, if_pos ⟨e, e2⟩]
      · rw [if_neg e2, if_neg (fun h => e2 h.2)]
theorem lk_mem {l : NL} {p : ByteArray} {f : Nat} (h : lk l p = some f) : (p, f) ∈ l := by
  induction l with
  | nil => cases h
  | cons x l ih =>
    by_cases e : x.1 = p
    · have h' : (if x.1 = p then some x.2 else lk l p) = some f := h
      rw [if_pos e] at h'
      injection h' with h'
      have : x = (p, f) := Prod.ext e h'
      rw [this]
      simp
    · have h' : (if x.1 = p then some x.2 else lk l p) = some f := h
      rw [if_neg e] at h'
      exact List.mem_cons_of_mem _ (ih h')
theorem mem_lk {l : NL} (hs : Srt l) {p : ByteArray} {f : Nat} (h : (p, f) ∈ l) : lk l p = some f := by
  induction l with
  | nil => cases h
  | cons x l ih =>
    have h1 := (List.pairwise_cons.1 hs).1
    have h2 := (List.pairwise_cons.1 hs).2
    show (if x.1 = p then some x.2 else lk l p) = some f
    rcases List.mem_cons.1 h with h | h
    · subst h; rw [if_pos rfl]
    · rw [if_neg (fun e => by have := h1 _ h; rw [e] at this; exact ltA_irr _ this)]
      exact ih h2 h
/-- Two rising lists of the same texts are one. -/
theorem rise_unique : ∀ {l m : List ByteArray}, l.Pairwise ltA → m.Pairwise ltA → (∀ x, x ∈ l ↔ x ∈ m) → l = m
  | [], [], _, _, _ => rfl
  | [], y :: m, _, _, h => absurd ((h y).2 (by simp)) (by simp)
  | x :: l, [], _, _, h => absurd ((h x).1 (by simp)) (by simp)
  | x :: l, y :: m, h1, h2, h => by
    have a1 := (List.pairwise_cons.1 h1).1
    have b1 := (List.pairwise_cons.1 h2).1
    have e : x = y := by
      rcases ltA_tri x y with h' | h' | h'
      · have : x ∈ y :: m := (h x).1 (by simp)
        rcases List.mem_cons.1 this with e | hm
        · exact e
        · exact absurd (b1 x hm) (ltA_asymm h')
      · exact h'
      · have : y ∈ x :: l := (h y).2 (by simp)
        rcases List.mem_cons.1 this with e | hm
        · exact e.symm
        · exact absurd (a1 y hm) (ltA_asymm h')
    subst e
    congr 1
    refine rise_unique (List.pairwise_cons.1 h1).2 (List.pairwise_cons.1 h2).2 (fun z => ⟨fun hz => ?_, fun hz => ?_⟩)
    · rcases List.mem_cons.1 ((h z).1 (by simp [hz])) with e | hm
      · subst e; exact absurd (a1 z hz) (ltA_irr z)
      · exact hm
    · rcases List.mem_cons.1 ((h z).2 (by simp [hz])) with e | hm
      · subst e; exact absurd (b1 z hz) (ltA_irr z)
      · exact hm
theorem keys_rise {f : ByteArray → Option Value} {L : List ByteArray} (h : KeysOk f L) : L.Pairwise ltA := by
  have := List.pairwise_and_iff.2 ⟨h.nodup, h.rise⟩
  refine this.imp (fun {a b} hab => ?_)
  rcases ltA_tri a b with h' | h' | h'
  · exact h'
  · exact absurd h' hab.1
  · exact absurd (show b.data.toList < a.data.toList from h') (List.not_lt.2 hab.2)
theorem srt_keys {l : NL} (h : Srt l) : (l.map Prod.fst).Pairwise ltA := List.pairwise_map.2 h

open Go.RowKit Go.WideMaps Go.Maps

/-- The document's disk. -/
structure DD where
  names : NL
  lasting : NL
  pend : List PnC
  files : List (List Int × Nat)
  quota : Int
  offAt : Int
  count : Int
  off : Bool
def nmF (l : NL) (p : ByteArray) : Nat := (lk l p).getD 0
def ctF (fs : List (List Int × Nat)) (f : Nat) : List Int × Nat := fs.getD (f - 1) ([], 0)
def lenF (fs : List (List Int × Nat)) (f : Nat) : Int := ((ctF fs f).1.length : Int)
def sumF (fs : List (List Int × Nat)) (l : NL) : Int := (l.map fun x => lenF fs x.2).sum
def usedF (D : DD) : Int := sumF D.files D.names
def badF (c : Cl) : Bool := if c.kind = 6 then false else !pathF c.path || (decide (c.kind = 4) && (!pathF c.dst || !decide (folF c.path = folF c.dst)))
def failF (D : DD) (c : Cl) : Int :=
  if badF c = true then 1
  else if c.kind = 1 ∧ nmF D.names c.path ≠ 0 then 8
  else if 2 ≤ c.kind ∧ c.kind ≤ 5 ∧ nmF D.names c.path = 0 then 7
  else if c.kind = 2 ∧ 2097152 < lenF D.files (nmF D.names c.path) + c.data.length then 2
  else if c.kind = 2 ∧ D.quota < usedF D + c.data.length then 12
  else 0
def namedF (D : DD) (c : PnC) : DD := { D with names := chgF D.names c, pend := D.pend ++ [c] }
def putC (fs : List (List Int × Nat)) (f : Nat) (x : List Int × Nat) : List (List Int × Nat) := fs.set (f - 1) x
def lastF (q : ByteArray) (l : NL) (P : List PnC) : NL := (P.filter fun c => decide (folF c.path = q)).foldl chgF l
def madeF (D : DD) (c : Cl) : DD :=
  if c.kind = 1 then namedF { D with files := D.files ++ [([], 0)] } ⟨c.path, ByteArray.empty, D.files.length + 1⟩
  else if c.kind = 2 then { D with files := putC D.files (nmF D.names c.path) ((ctF D.files (nmF D.names c.path)).1 ++ c.data, (ctF D.files (nmF D.names c.path)).2) }
  else if c.kind = 3 then { D with files := putC D.files (nmF D.names c.path) ((ctF D.files (nmF D.names c.path)).1, (ctF D.files (nmF D.names c.path)).1.length) }
  else if c.kind = 4 then (if c.path ≠ c.dst then namedF D ⟨c.dst, c.path, nmF D.names c.path⟩ else D)
  else if c.kind = 5 then namedF D ⟨c.path, ByteArray.empty, 0⟩
  else { D with lasting := lastF c.path D.lasting D.pend, pend := D.pend.filter fun x => !decide (folF x.path = c.path) }
def tickF (D : DD) : DD := { D with count := D.count + 1, off := decide (D.count + 1 = D.offAt) }
def doF (D : DD) (c : Cl) : DD :=
  if D.off = true then D
  else if D.count + 1 = D.offAt then tickF D
  else if failF D c ≠ 0 then tickF D
  else madeF (tickF D) c
/-- A pending change as the program has it. -/
def cg (φ : Nat → Nat) (c : PnC) : Chg := if c.file = 0 then ⟨c.path, none⟩ else ⟨c.frm, some (c.path, φ c.file)⟩
structure PnOk (n : Nat) (c : PnC) : Prop where
  path : c.path ≠ ByteArray.empty
  file : c.file ≤ n
  frm : c.file = 0 → c.frm = ByteArray.empty
/-- Names in the two shapes. -/
structure Nm (φ : Nat → Nat) (n : Nat) (N : ByteArray → Option Nat) (l : NL) : Prop where
  srt : Srt l
  eq : ∀ p, N p = (lk l p).map φ
  rng : ∀ x ∈ l, 1 ≤ x.2 ∧ x.2 ≤ n ∧ x.1 ≠ ByteArray.empty
theorem Nm.emp {φ : Nat → Nat} {n : Nat} {N : ByteArray → Option Nat} {l : NL} (h : Nm φ n N l) : lk l ByteArray.empty = none := by
  cases hl : lk l ByteArray.empty with
  | none => rfl
  | some f => exact absurd rfl (h.rng _ (lk_mem hl)).2.2
theorem Nm.chg {φ : Nat → Nat} {n : Nat} {N : ByteArray → Option Nat} {l : NL} (h : Nm φ n N l) {c : PnC} (hc : PnOk n c) : Nm φ n (apl N (cg φ c)) (chgF l c) := by
  refine ⟨srt_chg h.srt c, fun p => ?_, fun x hx => ?_⟩
  · rw [lk_chg h.srt]
    unfold apl cg
    by_cases hf : c.file = 0
    · rw [if_pos hf]
      have hfr := hc.frm hf
      show upd N c.path none p = _
      unfold upd
      by_cases e : p = c.path
      · rw [if_pos e, if_pos e, if_pos hf]; rfl
      · rw [if_neg e, if_neg e, if_neg (fun h => h.1 hfr), h.eq]
    · rw [if_neg hf]
      show upd (upd N c.frm none) c.path (some (φ c.file)) p = _
      unfold upd
      by_cases e : p = c.path
      · rw [if_pos e, if_pos e, if_neg hf]; rfl
      · rw [if_neg e, if_neg e]
        by_cases e2 : p = c.frm
        · rw [if_pos e2]
          by_cases e3 : c.frm = ByteArray.empty
          · rw [if_neg (fun h => h.1 e3), e2, e3, h.emp]; rfl
          · rw [if_pos ⟨e3, e2⟩]; rfl
        · rw [if_neg e2, if_neg (fun h => e2 h.2), h.eq]
  · unfold chgF at hx
    have key : ∀ m : NL, Srt m → (∀ x ∈ m, 1 ≤ x.2 ∧ x.2 ≤ n ∧ x.1 ≠ ByteArray.empty) → x ∈ putF m c.path c.file → 1 ≤ x.2 ∧ x.2 ≤ n ∧ x.1 ≠ ByteArray.empty := fun m hm hr hx => by
      rcases mem_put hm hx with ⟨h0, rfl⟩ | hx
      · exact ⟨by show 1 ≤ c.file; omega, hc.file, hc.path⟩
      · exact hr x hx
    split at hx
    · exact key l h.srt h.rng hx
    · refine key _ (srt_put h.srt _ _) (fun y hy => ?_) hx
      rcases mem_put h.srt hy with ⟨h0, -⟩ | hy
      · exact absurd rfl h0
      · exact h.rng y hy
theorem Nm.fold {φ : Nat → Nat} {n : Nat} : ∀ {P : List PnC} {N : ByteArray → Option Nat} {l : NL}, Nm φ n N l → (∀ c ∈ P, PnOk n c) → Nm φ n ((P.map (cg φ)).foldl apl N) (P.foldl chgF l)
  | [], _, _, h, _ => h
  | c :: P, _, _, h, hP => by
    rw [List.map_cons, List.foldl_cons, List.foldl_cons]
    exact Nm.fold (h.chg (hP c (by simp))) (fun x hx => hP x (by simp [hx]))
/-- Names with a file more. -/
theorem Nm.more {φ ψ : Nat → Nat} {n m : Nat} {N : ByteArray → Option Nat} {l : NL} (h : Nm φ n N l) (hm : n ≤ m) (hψ : ∀ i, i ≤ n → ψ i = φ i) : Nm ψ m N l := by
  refine ⟨h.srt, fun p => ?_, fun x hx => ?_⟩
  · rw [h.eq]
    cases hl : lk l p with
    | none => rfl
    | some f => show some (φ f) = some (ψ f); rw [hψ f (h.rng _ (lk_mem hl)).2.1]
  · have := h.rng x hx
    exact ⟨this.1, by omega, this.2.2⟩
/-- How the program's disk and the document's belong together. -/
structure Cor (φ : Nat → Nat) (s : Ps) (D : DD) : Prop where
  N : Nm φ D.files.length s.N D.names
  L : Nm φ D.files.length s.L D.lasting
  C : ∀ q, s.C q = (D.pend.filter fun c => decide (folF c.path = q)).map (cg φ)
  P : ∀ c ∈ D.pend, PnOk D.files.length c
  F : ∀ f, 1 ≤ f → f ≤ D.files.length → s.F (φ f) = some (ctF D.files f)
  inj : ∀ i j, 1 ≤ i → i ≤ D.files.length → 1 ≤ j → j ≤ D.files.length → φ i = φ j → i = j
  quota : s.quota = D.quota
  last : s.last = D.offAt
  count : s.count = D.count
  dark : s.dark = D.off
  used : s.used = usedF D
  R : ∀ i, s.R i = false
theorem Cor.tick {φ : Nat → Nat} {s : Ps} {D : DD} (h : Cor φ s D) (h0 : D.off = false) : Cor φ (bgP s) (tickF D) := by
  have hd : s.dark = false := by rw [h.dark, h0]
  have e : bgP s = { s with count := s.count + 1, dark := decide (s.count + 1 = s.last) } := by
    unfold bgP
    rw [if_neg (by rw [hd]; decide)]
  rw [e]
  exact ⟨h.N, h.L, h.C, h.P, h.F, h.inj, h.quota, h.last, by show s.count + 1 = D.count + 1; rw [h.count], by show decide (s.count + 1 = s.last) = decide (D.count + 1 = D.offAt); rw [h.count, h.last], h.used, h.R⟩
theorem Cor.at_none {φ : Nat → Nat} {s : Ps} {D : DD} (h : Cor φ s D) (p : ByteArray) : s.N p = none ↔ nmF D.names p = 0 := by
  rw [h.N.eq]
  unfold nmF
  cases hl : lk D.names p with
  | none => simp
  | some f =>
    have := (h.N.rng _ (lk_mem hl)).1
    simp only at this
    constructor
    · intro h; cases h
    · intro h
      have h : f = 0 := h
      omega
theorem Cor.at_some {φ : Nat → Nat} {s : Ps} {D : DD} (h : Cor φ s D) {p : ByteArray} (hp : nmF D.names p ≠ 0) : s.N p = some (φ (nmF D.names p)) ∧ lk D.names p = some (nmF D.names p) ∧ 1 ≤ nmF D.names p ∧ nmF D.names p ≤ D.files.length ∧ fileP s p = some (φ (nmF D.names p), (ctF D.files (nmF D.names p)).1, (ctF D.files (nmF D.names p)).2) := by
  cases hl : lk D.names p with
  | none => exact absurd (by unfold nmF; rw [hl]; rfl) hp
  | some f =>
    have hf : nmF D.names p = f := by unfold nmF; rw [hl]; rfl
    have hr := h.N.rng _ (lk_mem hl)
    simp only at hr
    rw [hf]
    have hN : s.N p = some (φ f) := by rw [h.N.eq, hl]; rfl
    refine ⟨hN, rfl, hr.1, hr.2.1, ?_⟩
    unfold fileP
    rw [hN]
    show (s.F (φ f)).map _ = _
    rw [h.F f hr.1 hr.2.1]
    rfl
theorem bgEP_D {φ : Nat → Nat} {s : Ps} {D : DD} (h : Cor φ s D) (h0 : D.off = false) (h1 : ¬ D.count + 1 = D.offAt) (r : Bool) (L : List ByteArray) : bgEP s r L = if oneF L = false then 1 else 0 := by
  unfold bgEP
  rw [if_neg (by rw [h.dark, h0]; decide), if_neg (by rw [h.count, h.last]; exact h1), h.R]
  split
  · rfl
  · rfl

open Go.RowKit Go.WideMaps Go.Maps

def oldF (fs : List (List Int × Nat)) (l : NL) (p : ByteArray) : Int := match lk l p with | none => 0 | some g => lenF fs g
theorem sumF_cons (fs : List (List Int × Nat)) (x : ByteArray × Nat) (l : NL) : sumF fs (x :: l) = lenF fs x.2 + sumF fs l := by
  unfold sumF
  simp
theorem oldF_cons (fs : List (List Int × Nat)) (x : ByteArray × Nat) (l : NL) (p : ByteArray) : oldF fs (x :: l) p = if x.1 = p then lenF fs x.2 else oldF fs l p := by
  unfold oldF
  show (match (if x.1 = p then some x.2 else lk l p) with | none => 0 | some g => lenF fs g) = _
  split <;> rename_i h <;> split at h <;> simp_all
theorem oldF_low {fs : List (List Int × Nat)} {l : NL} {p : ByteArray} (h : ∀ x ∈ l, ltA p x.1) : oldF fs l p = 0 := by unfold oldF; rw [lk_low h]
theorem sumF_del (fs : List (List Int × Nat)) (p : ByteArray) : ∀ {l : NL}, Srt l → sumF fs (del p l) = sumF fs l - oldF fs l p
  | [], _ => by simp [del, sumF, oldF, lk]
  | x :: l, h => by
    have h1 := (List.pairwise_cons.1 h).1
    have h2 := (List.pairwise_cons.1 h).2
    rw [oldF_cons, sumF_cons]
    by_cases e : x.1 = p
    · rw [if_pos e]
      have : del p (x :: l) = l := by
        unfold del
        rw [List.filter_cons_of_neg (by simp [e])]
        exact del_all (fun y hy e2 => ltA_ne (h1 y hy) (e.trans e2.symm))
      rw [this]
      omega
    · rw [if_neg e]
      have : del p (x :: l) = x :: del p l := by
        unfold del
        rw [List.filter_cons_of_pos (by simp [e])]
      rw [this, sumF_cons, sumF_del fs p h2]
      omega
theorem sumF_ins (fs : List (List Int × Nat)) (p : ByteArray) (f : Nat) : ∀ {l : NL}, Srt l → sumF fs (ins p f l) = sumF fs l - oldF fs l p + lenF fs f
  | [], _ => by simp [ins, sumF, oldF, lk]
  | x :: l, h => by
    have h1 := (List.pairwise_cons.1 h).1
    have h2 := (List.pairwise_cons.1 h).2
    rw [oldF_cons, sumF_cons]
    unfold ins
    by_cases e : x.1 = p
    · rw [if_pos e, if_pos e, sumF_cons]
      show lenF fs f + _ = _
      omega
    · rw [if_neg e, if_neg e]
      cases hle : leB p x.1 with
      | true =>
        have hlt : ltA p x.1 := (leB_iff.1 hle).resolve_right (fun e' => e e'.symm)
        rw [if_pos rfl, sumF_cons, sumF_cons, oldF_low (fun y hy => ltA_trans hlt (h1 y hy))]
        show lenF fs f + _ = _
        omega
      | false =>
        rw [if_neg (by decide), sumF_cons, sumF_ins fs p f h2]
        omega
theorem sumF_put (fs : List (List Int × Nat)) {l : NL} (h : Srt l) (p : ByteArray) (f : Nat) : sumF fs (putF l p f) = sumF fs l - oldF fs l p + (if f = 0 then 0 else lenF fs f) := by
  by_cases hf : f = 0
  · subst hf
    rw [putF_zero, sumF_del fs p h, if_pos rfl]
    omega
  · rw [putF_ins h p hf, sumF_ins fs p f h, if_neg hf]
theorem sumF_congr {fs gs : List (List Int × Nat)} {l : NL} (h : ∀ x ∈ l, lenF fs x.2 = lenF gs x.2) : sumF fs l = sumF gs l := by
  induction l with
  | nil => rfl
  | cons x l ih => rw [sumF_cons, sumF_cons, h x (by simp), ih (fun y hy => h y (by simp [hy]))]
theorem ctF_more {fs : List (List Int × Nat)} {x : List Int × Nat} {f : Nat} (h1 : 1 ≤ f) (h : f ≤ fs.length) : ctF (fs ++ [x]) f = ctF fs f := by
  unfold ctF
  simp only [List.getD]
  rw [List.getElem?_append_left (by omega)]
theorem ctF_last {fs : List (List Int × Nat)} {x : List Int × Nat} : ctF (fs ++ [x]) (fs.length + 1) = x := by
  unfold ctF
  simp [List.getD]
theorem ctF_put {fs : List (List Int × Nat)} {f g : Nat} {x : List Int × Nat} (hf : 1 ≤ f) (hf2 : f ≤ fs.length) (hg : 1 ≤ g) : ctF (putC fs f x) g = if g = f then x else ctF fs g := by
  unfold ctF putC
  simp only [List.getD, List.getElem?_set]
  by_cases e : g = f
  · subst e
    rw [if_pos rfl, if_pos rfl, if_pos (by omega)]
    rfl
  · rw [if_neg (by omega), if_neg e]
theorem putC_len (fs : List (List Int × Nat)) (f : Nat) (x : List Int × Nat) : (putC fs f x).length = fs.length := by unfold putC; simp
/-- One file changed: the sum. -/
theorem sumF_putC {fs : List (List Int × Nat)} {f : Nat} {x : List Int × Nat} (hf : 1 ≤ f) (hf2 : f ≤ fs.length) {p : ByteArray} : ∀ {l : NL}, Srt l → (∀ y ∈ l, 1 ≤ y.2) → (∀ y ∈ l, y.2 = f → y.1 = p) → (p, f) ∈ l → sumF (putC fs f x) l = sumF fs l - lenF fs f + x.1.length
  | [], _, _, _, h => absurd h (by simp)
  | y :: l, hs, hr, hu, h => by
    have h1 := (List.pairwise_cons.1 hs).1
    have h2 := (List.pairwise_cons.1 hs).2
    rw [sumF_cons, sumF_cons]
    by_cases e : y.2 = f
    · have hy := hu y (by simp) e
      have hrest : sumF (putC fs f x) l = sumF fs l := sumF_congr (fun z hz => by
        have hz2 : z.2 ≠ f := fun e2 => by
          have := hu z (by simp [hz]) e2
          exact ltA_ne (h1 z hz) (hy.trans this.symm)
        unfold lenF
        rw [ctF_put hf hf2 (hr z (by simp [hz])), if_neg hz2])
      rw [hrest]
      have : lenF (putC fs f x) y.2 = x.1.length := by
        unfold lenF
        rw [ctF_put hf hf2 (hr y (by simp)), if_pos e]
      rw [this, e]
      omega
    · have hm : (p, f) ∈ l := by
        rcases List.mem_cons.1 h with h | h
        · subst h; exact absurd rfl e
        · exact h
      rw [sumF_putC hf hf2 h2 (fun z hz => hr z (by simp [hz])) (fun z hz => hu z (by simp [hz])) hm]
      have : lenF (putC fs f x) y.2 = lenF fs y.2 := by
        unfold lenF
        rw [ctF_put hf hf2 (hr y (by simp)), if_neg e]
      rw [this]
      omega
theorem cg_congr {φ ψ : Nat → Nat} {c : PnC} (h : ψ c.file = φ c.file) : cg ψ c = cg φ c := by unfold cg; rw [h]
/-- Names changed, and the change pending. -/
theorem Cor.named {φ : Nat → Nat} {s : Ps} {D : DD} (h : Cor φ s D) {c : PnC} (hc : PnOk D.files.length c) {p : ByteArray} (hp : folF c.path = folF p) {u : Int} (hu : u = sumF D.files (chgF D.names c)) : Cor φ (noteP { s with used := u } p (cg φ c)) (namedF D c) := by
  refine ⟨h.N.chg hc, h.L, fun q => ?_, fun x hx => ?_, h.F, h.inj, h.quota, h.last, h.count, h.dark, hu, h.R⟩
  · show upd s.C (folF p) (s.C (folF p) ++ [cg φ c]) q = ((D.pend ++ [c]).filter _).map _
    rw [List.filter_append, List.map_append]
    by_cases e : q = folF p
    · subst e
      rw [upd_same, h.C]
      congr 1
      simp [hp]
    · rw [upd_other _ _ e, h.C]
      have : ([c].filter fun c => decide (folF c.path = q)) = [] := by
        simp
        exact fun e2 => e (e2.symm.trans hp)
      rw [this]
      simp
  · rcases List.mem_append.1 hx with hx | hx
    · exact h.P x hx
    · simp at hx
      subst hx
      exact hc
theorem bg_dark {s : Ps} (h : s.dark = true) : bgP s = s := by unfold bgP; rw [if_pos h]
/-- What a call answers. -/
def erF (s : Ps) (c : Cl) : Int :=
  if c.kind = 1 then crE s c.path
  else if c.kind = 2 then apE s c.path c.data.length
  else if c.kind = 3 then opEP s [c.path] c.path
  else if c.kind = 4 then opEP s [c.path, c.dst] c.path
  else if c.kind = 5 then opEP s [c.path] c.path
  else bgEP s false []
theorem do_bad {s s' : Ps} {c : Cl} (hd : DoP s c s') (he : erF s c ≠ 0) : s' = bgP s := by
  unfold DoP at hd
  unfold erF at he
  split at hd
  · rename_i hk
    rw [if_pos hk] at he
    unfold CrP at hd
    rwa [if_neg he] at hd
  · rename_i hk1
    rw [if_neg hk1] at he
    split at hd
    · rename_i hk
      rw [if_pos hk] at he
      subst hd
      unfold apP
      rw [if_neg he]
    · rename_i hk2
      rw [if_neg hk2] at he
      split at hd
      · rename_i hk
        rw [if_pos hk] at he
        subst hd
        unfold syP
        rw [if_neg he]
      · rename_i hk3
        rw [if_neg hk3] at he
        split at hd
        · rename_i hk
          rw [if_pos hk] at he
          subst hd
          unfold rnP
          rw [if_neg (fun h => he h.1)]
        · rename_i hk4
          rw [if_neg hk4] at he
          split at hd
          · rename_i hk
            rw [if_pos hk] at he
            subst hd
            unfold rmP
            rw [if_neg he]
          · rename_i hk5
            rw [if_neg hk5] at he
            subst hd
            unfold sdP
            rw [if_neg he]
theorem er_bg {s : Ps} {c : Cl} {k : Int} (h : ∀ r L, bgEP s r L = k) (hk : k ≠ 0) : erF s c ≠ 0 := by
  unfold erF crE apE opEP
  simp only [h, if_neg hk]
  split
  · exact hk
  · split
    · exact hk
    · split
      · exact hk
      · split
        · exact hk
        · split <;> exact hk

open Go.RowKit Go.WideMaps Go.Maps

theorem oneF_one_eq (p : ByteArray) : oneF [p] = pathF p := by
  unfold oneF
  simp
theorem oneF_two_eq (p q : ByteArray) : oneF [p, q] = (pathF p && (pathF q && decide (folF q = folF p))) := by
  unfold oneF
  simp
/-- The two answers are one. -/
theorem er_fail {φ : Nat → Nat} {s : Ps} {D : DD} (h : Cor φ s D) (h0 : D.off = false) (h1 : ¬ D.count + 1 = D.offAt) (c : Cl) (hk : 1 ≤ c.kind ∧ c.kind ≤ 6) : erF s c = failF D c := by
  have hb := fun r L => bgEP_D h h0 h1 r L
  obtain ⟨k1, k6⟩ := hk
  rcases (by omega : c.kind = 1 ∨ c.kind = 2 ∨ c.kind = 3 ∨ c.kind = 4 ∨ c.kind = 5 ∨ c.kind = 6) with hk | hk | hk | hk | hk | hk
  · have e0 : erF s c = crE s c.path := by unfold erF; rw [if_pos hk]
    rw [e0]
    unfold crE failF badF
    rw [hb, oneF_one_eq, hk]
    cases hp : pathF c.path with
    | false => simp
    | true =>
      by_cases e : nmF D.names c.path = 0
      · rw [(h.at_none c.path).2 e]; simp [e]
      · rw [(h.at_some e).1]; simp [e]
  · have e0 : erF s c = apE s c.path c.data.length := by unfold erF; rw [if_neg (by omega), if_pos hk]
    rw [e0]
    unfold apE opEP failF badF
    rw [hb, oneF_one_eq, hk]
    cases hp : pathF c.path with
    | false => simp
    | true =>
      by_cases e : nmF D.names c.path = 0
      · rw [(h.at_none c.path).2 e]; simp [e]
      · rw [(h.at_some e).1, (h.at_some e).2.2.2.2, h.quota, h.used]
        unfold lenF
        by_cases e3 : 2097152 < (ctF D.files (nmF D.names c.path)).1.length + c.data.length
        · have e4 : (2097152 : Int) < ((ctF D.files (nmF D.names c.path)).1.length : Int) + (c.data.length : Int) := by omega
          simp [e, e3, e4]
        · have e4 : ¬ (2097152 : Int) < ((ctF D.files (nmF D.names c.path)).1.length : Int) + (c.data.length : Int) := by omega
          simp [e, e3, e4]
  · have e0 : erF s c = opEP s [c.path] c.path := by unfold erF; rw [if_neg (by omega), if_neg (by omega), if_pos hk]
    rw [e0]
    unfold opEP failF badF
    rw [hb, oneF_one_eq, hk]
    cases hp : pathF c.path with
    | false => simp
    | true =>
      by_cases e : nmF D.names c.path = 0
      · rw [(h.at_none c.path).2 e]; simp [e]
      · rw [(h.at_some e).1]; simp [e]
  · have e0 : erF s c = opEP s [c.path, c.dst] c.path := by unfold erF; rw [if_neg (by omega), if_neg (by omega), if_neg (by omega), if_pos hk]
    rw [e0]
    unfold opEP failF badF
    rw [hb, oneF_two_eq, hk]
    cases hp : pathF c.path with
    | false => simp
    | true =>
      cases hq : pathF c.dst with
      | false => simp
      | true =>
        by_cases e2 : folF c.path = folF c.dst
        · by_cases e : nmF D.names c.path = 0
          · rw [(h.at_none c.path).2 e]; simp [e, e2]
          · rw [(h.at_some e).1]; simp [e, e2]
        · have e3 : ¬ folF c.dst = folF c.path := fun e => e2 e.symm
          simp [e2, e3]
  · have e0 : erF s c = opEP s [c.path] c.path := by unfold erF; rw [if_neg (by omega), if_neg (by omega), if_neg (by omega), if_neg (by omega), if_pos hk]
    rw [e0]
    unfold opEP failF badF
    rw [hb, oneF_one_eq, hk]
    cases hp : pathF c.path with
    | false => simp
    | true =>
      by_cases e : nmF D.names c.path = 0
      · rw [(h.at_none c.path).2 e]; simp [e]
      · rw [(h.at_some e).1]; simp [e]
  · have e0 : erF s c = bgEP s false [] := by unfold erF; rw [if_neg (by omega), if_neg (by omega), if_neg (by omega), if_neg (by omega), if_neg (by omega)]
    rw [e0]
    unfold failF badF
    rw [hb, oneF_nil, hk]
    simp
theorem good_path {D : DD} {c : Cl} (h : failF D c = 0) (hk : c.kind ≠ 6) : pathF c.path = true ∧ (c.kind = 4 → pathF c.dst = true ∧ folF c.dst = folF c.path) := by
  have hb : badF c = false := by
    cases hb : badF c with
    | false => rfl
    | true => unfold failF at h; rw [if_pos hb] at h; exact absurd h (by decide)
  unfold badF at hb
  rw [if_neg hk] at hb
  cases hp : pathF c.path with
  | false => rw [hp] at hb; simp at hb
  | true =>
    refine ⟨rfl, fun h4 => ?_⟩
    rw [hp, decide_eq_true h4] at hb
    cases hq : pathF c.dst with
    | false => rw [hq] at hb; simp at hb
    | true =>
      rw [hq] at hb
      refine ⟨rfl, ?_⟩
      simp at hb
      exact hb.symm
theorem there {D : DD} {c : Cl} (h : failF D c = 0) (h2 : 2 ≤ c.kind) (h5 : c.kind ≤ 5) : nmF D.names c.path ≠ 0 := fun e => by
  unfold failF at h
  split at h
  · exact absurd h (by decide)
  · rw [if_neg (fun h' => by omega), if_pos ⟨h2, h5, e⟩] at h
    exact absurd h (by decide)
theorem notThere {D : DD} {c : Cl} (h : failF D c = 0) (h1 : c.kind = 1) : nmF D.names c.path = 0 := by
  unfold failF at h
  split at h
  · exact absurd h (by decide)
  · by_cases e : nmF D.names c.path = 0
    · exact e
    · rw [if_pos ⟨h1, e⟩] at h
      exact absurd h (by decide)
/-- Names with their files are pairs, each once. -/
theorem Cor.once {φ : Nat → Nat} {s : Ps} {D : DD} (h : Cor φ s D) (hi : Inv s) {f : Nat} {p : ByteArray} (hp : lk D.names p = some f) : ∀ y ∈ D.names, y.2 = f → y.1 = p := fun y hy e => by
  have h1 : lk D.names y.1 = some y.2 := mem_lk h.N.srt hy
  refine hi.inj y.1 p (φ f) ?_ ?_
  · rw [h.N.eq, h1, e]; rfl
  · rw [h.N.eq, hp]; rfl
theorem Cor.setFile {φ : Nat → Nat} {s : Ps} {D : DD} (h : Cor φ s D) (hi : Inv s) {p : ByteArray} (hp : nmF D.names p ≠ 0) {x : List Int × Nat} {u : Int} (hu : u = s.used - lenF D.files (nmF D.names p) + x.1.length) :
    Cor φ { s with used := u, F := upd s.F (φ (nmF D.names p)) (some x) } { D with files := putC D.files (nmF D.names p) x } := by
  obtain ⟨h1, h2, h3, h4, h5⟩ := h.at_some hp
  have hl := putC_len D.files (nmF D.names p) x
  have hid : ∀ i, i ≤ D.files.length → φ i = φ i := fun _ _ => rfl
  refine ⟨h.N.more (by rw [hl]; exact Nat.le_refl _) (fun _ _ => rfl), h.L.more (by rw [hl]; exact Nat.le_refl _) (fun _ _ => rfl), h.C, fun c hc => ?_, fun f g1 g2 => ?_, fun i j a b c d e => h.inj i j a (by rw [hl] at b; exact b) c (by rw [hl] at d; exact d) e, h.quota, h.last, h.count, h.dark, ?_, h.R⟩
  · have := h.P c hc
    exact ⟨this.path, by rw [hl]; exact this.file, this.frm⟩
  · have g2 : f ≤ D.files.length := by rw [hl] at g2; exact g2
    rw [ctF_put h3 h4 g1]
    show upd s.F (φ (nmF D.names p)) (some x) (φ f) = _
    by_cases e : f = nmF D.names p
    · rw [if_pos e, e, upd_same]
    · rw [if_neg e, upd_other _ _ (fun e2 => e (h.inj f _ g1 g2 h3 h4 e2))]
      exact h.F f g1 g2
  · show u = sumF _ D.names
    rw [sumF_putC h3 h4 h.N.srt (fun y hy => (h.N.rng y hy).1) (h.once hi h2) (lk_mem h2), hu, h.used]
    rfl

open Go.RowKit Go.WideMaps Go.Maps

theorem oldF_none {fs : List (List Int × Nat)} {l : NL} {p : ByteArray} (h : lk l p = none) : oldF fs l p = 0 := by unfold oldF; rw [h]
theorem oldF_some {fs : List (List Int × Nat)} {l : NL} {p : ByteArray} {f : Nat} (h : lk l p = some f) : oldF fs l p = lenF fs f := by unfold oldF; rw [h]
theorem nmF_none {l : NL} {p : ByteArray} (hr : ∀ x ∈ l, 1 ≤ x.2) (h : nmF l p = 0) : lk l p = none := by
  cases hl : lk l p with
  | none => rfl
  | some f =>
    have h1 := hr _ (lk_mem hl)
    unfold nmF at h
    rw [hl] at h
    simp only [Option.getD_some] at h
    simp only at h1
    omega
theorem Cor.oldAt {φ : Nat → Nat} {s : Ps} {D : DD} (h : Cor φ s D) (q : ByteArray) : lenAt s q = oldF D.files D.names q := by
  by_cases e : nmF D.names q = 0
  · rw [oldF_none (nmF_none (fun x hx => (h.N.rng x hx).1) e)]
    unfold lenAt fileP
    rw [(h.at_none q).2 e]
    rfl
  · rw [oldF_some (h.at_some e).2.1]
    unfold lenAt
    rw [(h.at_some e).2.2.2.2]
    rfl
/-- A file more. -/
theorem Cor.newFile {φ : Nat → Nat} {s : Ps} {D : DD} (h : Cor φ s D) {f : Nat} (hf : s.F f = none) : Cor (fun i => if i = D.files.length + 1 then f else φ i) { s with F := upd s.F f (some ([], 0)) } { D with files := D.files ++ [([], 0)] } := by
  have hl : (D.files ++ [(([] : List Int), 0)]).length = D.files.length + 1 := by simp
  have hφ : ∀ i, i ≤ D.files.length → (if i = D.files.length + 1 then f else φ i) = φ i := fun i hi => if_neg (by omega)
  have hne : ∀ i, 1 ≤ i → i ≤ D.files.length → φ i ≠ f := fun i h1 h2 e => by
    have := h.F i h1 h2
    rw [e, hf] at this
    cases this
  refine ⟨h.N.more (by rw [hl]; omega) hφ, h.L.more (by rw [hl]; omega) hφ, fun q => ?_, fun c hc => ?_, fun g g1 g2 => ?_, fun i j a b c d e => ?_, h.quota, h.last, h.count, h.dark, ?_, h.R⟩
  · rw [show ({ s with F := upd s.F f (some ([], 0)) } : Ps).C q = s.C q from rfl, h.C]
    refine List.map_congr_left (fun c hc => (cg_congr ?_).symm)
    exact hφ _ (h.P c (List.mem_filter.1 hc).1).file
  · have := h.P c hc
    exact ⟨this.path, by rw [hl]; have := this.file; omega, this.frm⟩
  · rw [hl] at g2
    show upd s.F f (some ([], 0)) (if g = D.files.length + 1 then f else φ g) = _
    by_cases e : g = D.files.length + 1
    · rw [if_pos e, upd_same, e, ctF_last]
    · rw [if_neg e, upd_other _ _ (hne g g1 (by omega)), ctF_more g1 (by omega)]
      exact h.F g g1 (by omega)
  · rw [hl] at b d
    have e : (if i = D.files.length + 1 then f else φ i) = (if j = D.files.length + 1 then f else φ j) := e
    by_cases ei : i = D.files.length + 1
    · by_cases ej : j = D.files.length + 1
      · omega
      · rw [if_pos ei, if_neg ej] at e
        exact absurd e.symm (hne j c (by omega))
    · by_cases ej : j = D.files.length + 1
      · rw [if_neg ei, if_pos ej] at e
        exact absurd e (hne i a (by omega))
      · rw [if_neg ei, if_neg ej] at e
        exact h.inj i j a (by omega) c (by omega) e
  · show s.used = sumF _ D.names
    rw [h.used]
    unfold usedF
    refine sumF_congr (fun x hx => ?_)
    have := h.N.rng x hx
    unfold lenF
    rw [ctF_more this.1 this.2.1]
theorem tick_names (D : DD) : (tickF D).names = D.names := rfl
theorem Cor.do {φ : Nat → Nat} {s s' : Ps} {D : DD} (h : Cor φ s D) (hi : Inv s) {c : Cl} (hk : 1 ≤ c.kind ∧ c.kind ≤ 6) (hd : DoP s c s') : ∃ φ', Cor φ' s' (doF D c) := by
  by_cases h0 : D.off = true
  · have hb : ∀ r L, bgEP s r L = 13 := fun r L => by unfold bgEP; rw [if_pos (by rw [h.dark]; exact h0)]
    have := do_bad hd (er_bg hb (by decide))
    rw [bg_dark (by rw [h.dark]; exact h0)] at this
    subst this
    unfold doF
    rw [if_pos h0]
    exact ⟨φ, h⟩
  have h0 : D.off = false := by simpa using h0
  have ht := h.tick h0
  unfold doF
  rw [if_neg (by rw [h0]; decide)]
  by_cases h1 : D.count + 1 = D.offAt
  · have hb : ∀ r L, bgEP s r L = 13 := fun r L => by unfold bgEP; rw [if_neg (by rw [h.dark, h0]; decide), if_pos (by rw [h.count, h.last]; exact h1)]
    have := do_bad hd (er_bg hb (by decide))
    subst this
    rw [if_pos h1]
    exact ⟨φ, ht⟩
  rw [if_neg h1]
  have hE := er_fail h h0 h1 c hk
  by_cases hf : failF D c ≠ 0
  · have := do_bad hd (by rw [hE]; exact hf)
    subst this
    rw [if_pos hf]
    exact ⟨φ, ht⟩
  rw [if_neg hf]
  have hf : failF D c = 0 := by simpa using hf
  rw [hf] at hE
  have hu := bgP_used s
  have hbF := bgP_F s
  have hti := hi.bg
  obtain ⟨k1, k6⟩ := hk
  unfold DoP at hd
  unfold erF at hE
  unfold madeF
  rcases (by omega : c.kind = 1 ∨ c.kind = 2 ∨ c.kind = 3 ∨ c.kind = 4 ∨ c.kind = 5 ∨ c.kind = 6) with hk | hk | hk | hk | hk | hk
  · rw [if_pos hk] at hd hE ⊢
    have hg := good_path hf (by omega)
    unfold CrP at hd
    rw [if_pos hE] at hd
    obtain ⟨f, hfn, rfl⟩ := hd
    have hn : lk D.names c.path = none := nmF_none (fun x hx => (h.N.rng x hx).1) (notThere hf hk)
    have h2 := ht.newFile (f := f) (by rw [hbF]; exact hfn)
    rw [hbF] at h2
    have hl : ((tickF D).files ++ [(([] : List Int), 0)]).length = D.files.length + 1 := by
      show (D.files ++ _).length = _
      simp
    refine ⟨fun i => if i = (tickF D).files.length + 1 then f else φ i, ?_⟩
    have h3 := h2.named (c := ⟨c.path, ByteArray.empty, D.files.length + 1⟩) ⟨path_ne hg.1, by show _ ≤ ((tickF D).files ++ _).length; rw [hl]; exact Nat.le_refl _, fun _ => rfl⟩ (p := c.path) rfl (u := (bgP s).used) (by
      show _ = sumF (D.files ++ [([], 0)]) (putF D.names c.path (D.files.length + 1))
      rw [sumF_put _ h.N.srt, oldF_none hn, if_neg (by omega)]
      have e1 : lenF (D.files ++ [([], 0)]) (D.files.length + 1) = 0 := by unfold lenF; rw [ctF_last]; rfl
      have e2 : usedF { tickF D with files := (tickF D).files ++ [([], 0)] } = sumF (D.files ++ [([], 0)]) D.names := rfl
      have e3 := h2.used
      rw [e2] at e3
      rw [e1, ← e3]
      show (bgP s).used = (bgP s).used - 0 + 0
      omega)
    have e4 : cg (fun i => if i = (tickF D).files.length + 1 then f else φ i) ⟨c.path, ByteArray.empty, D.files.length + 1⟩ = crC c.path f := by
      unfold cg crC
      rw [if_neg (by simp)]
      show (⟨ByteArray.empty, some (c.path, if D.files.length + 1 = D.files.length + 1 then f else _)⟩ : Chg) = _
      rw [if_pos rfl]
    rw [e4] at h3
    exact h3
  · rw [if_neg (by omega), if_pos hk] at hd hE ⊢
    have hth := there hf (by omega) (by omega)
    obtain ⟨a1, a2, a3, a4, a5⟩ := h.at_some hth
    subst hd
    unfold apP
    rw [if_pos hE, a5]
    have h2 := ht.setFile hti (p := c.path) hth (x := ((ctF D.files (nmF D.names c.path)).1 ++ c.data, (ctF D.files (nmF D.names c.path)).2)) (u := s.used + c.data.length) (by
      show _ = (bgP s).used - lenF D.files (nmF D.names c.path) + _
      rw [hu]
      unfold lenF
      simp only [List.length_append]
      push_cast
      omega)
    rw [hbF] at h2
    exact ⟨φ, h2⟩
  · rw [if_neg (by omega), if_neg (by omega), if_pos hk] at hd hE ⊢
    have hth := there hf (by omega) (by omega)
    obtain ⟨a1, a2, a3, a4, a5⟩ := h.at_some hth
    subst hd
    unfold syP
    rw [if_pos hE, a5]
    have h2 := ht.setFile hti (p := c.path) hth (x := ((ctF D.files (nmF D.names c.path)).1, (ctF D.files (nmF D.names c.path)).1.length)) (u := (bgP s).used) (by
      show _ = (bgP s).used - lenF D.files (nmF D.names c.path) + ((ctF D.files (nmF D.names c.path)).1.length : Int)
      unfold lenF
      omega)
    rw [hbF] at h2
    exact ⟨φ, h2⟩
  · rw [if_neg (by omega), if_neg (by omega), if_neg (by omega), if_pos hk] at hd hE ⊢
    have hg := good_path hf (by omega)
    have hg4 := hg.2 hk
    have hth := there hf (by omega) (by omega)
    obtain ⟨a1, a2, a3, a4, a5⟩ := h.at_some hth
    subst hd
    unfold rnP
    by_cases e : c.path = c.dst
    · rw [if_neg (fun h => h.2 e), if_neg (fun h => h e)]
      exact ⟨φ, ht⟩
    · rw [if_pos ⟨hE, e⟩, if_pos e, a1]
      have hpe := path_ne hg.1
      have h3 := ht.named (c := ⟨c.dst, c.path, nmF D.names c.path⟩) ⟨path_ne hg4.1, a4, fun h0 => absurd h0 hth⟩ (p := c.path) hg4.2 (u := s.used - lenAt s c.dst) (by
        show _ = sumF D.files (chgF D.names _)
        unfold chgF
        rw [if_neg hpe, sumF_put _ (srt_put h.N.srt _ _), sumF_put _ h.N.srt, if_pos rfl, if_neg hth, oldF_some a2, h.oldAt, h.used]
        have e5 : oldF D.files (putF D.names c.path 0) c.dst = oldF D.files D.names c.dst := by
          unfold oldF
          rw [lk_put h.N.srt, if_neg (fun e2 => e e2.symm)]
        rw [e5]
        unfold usedF
        show _ = sumF D.files D.names - lenF D.files (nmF D.names c.path) + 0 - oldF D.files D.names c.dst + lenF D.files (nmF D.names c.path)
        omega)
      have e4 : cg φ ⟨c.dst, c.path, nmF D.names c.path⟩ = rnC c.path c.dst (φ (nmF D.names c.path)) := by
        unfold cg rnC
        rw [if_neg hth]
      rw [e4] at h3
      exact ⟨φ, h3⟩
  · rw [if_neg (by omega), if_neg (by omega), if_neg (by omega), if_neg (by omega), if_pos hk] at hd hE ⊢
    have hg := good_path hf (by omega)
    have hth := there hf (by omega) (by omega)
    obtain ⟨a1, a2, a3, a4, a5⟩ := h.at_some hth
    subst hd
    unfold rmP
    rw [if_pos hE, a5]
    have h3 := ht.named (c := ⟨c.path, ByteArray.empty, 0⟩) ⟨path_ne hg.1, Nat.zero_le _, fun _ => rfl⟩ (p := c.path) rfl (u := s.used - (ctF D.files (nmF D.names c.path)).1.length) (by
      show _ = sumF D.files (chgF D.names _)
      unfold chgF
      rw [if_pos rfl, sumF_put _ h.N.srt, if_pos rfl, oldF_some a2, h.used]
      unfold usedF lenF
      omega)
    exact ⟨φ, h3⟩
  · rw [if_neg (by omega), if_neg (by omega), if_neg (by omega), if_neg (by omega), if_neg (by omega)] at hd hE ⊢
    subst hd
    unfold sdP
    rw [if_pos hE]
    refine ⟨φ, ht.N, ?_, fun q => ?_, fun x hx => h.P x (List.mem_filter.1 hx).1, ht.F, ht.inj, ht.quota, ht.last, ht.count, ht.dark, ht.used, ht.R⟩
    · show Nm φ D.files.length ((s.C c.path).foldl apl s.L) (lastF c.path D.lasting D.pend)
      rw [h.C]
      exact h.L.fold (fun x hx => h.P x (List.mem_filter.1 hx).1)
    · show upd s.C c.path [] q = ((D.pend.filter fun x => !decide (folF x.path = c.path)).filter fun x => decide (folF x.path = q)).map (cg φ)
      rw [List.filter_filter]
      by_cases e : q = c.path
      · subst e
        rw [upd_same]
        have : (D.pend.filter fun a => decide (folF a.path = c.path) && !decide (folF a.path = c.path)) = [] := by
          rw [List.filter_eq_nil_iff]
          intro a _
          by_cases e2 : folF a.path = c.path <;> simp [e2]
        rw [this]
        rfl
      · rw [upd_other _ _ e, h.C]
        congr 1
        refine List.filter_congr (fun a _ => ?_)
        by_cases e2 : folF a.path = q
        · simp [e2, e]
        · simp [e2]

open Go.RowKit Go.WideMaps Go.Maps

def mineF (P : List PnC) (q : ByteArray) : List PnC := P.filter fun c => decide (folF c.path = q)
/-- The names behind a crash, a folder at a time. -/
def nmsO (P : List PnC) (cs : List Int) (s : NL × Nat) (q : ByteArray) : NL × Nat := (((mineF P q).take ((chs cs s.2).toNat % ((mineF P q).length + 1))).foldl chgF s.1, s.2 + 1)
def nmsG (D : DD) (cs : List Int) (ks : List ByteArray) : NL × Nat := ks.foldl (nmsO D.pend cs) (D.lasting, 0)
theorem nms_snd (P : List PnC) (cs : List Int) : ∀ (ks : List ByteArray) (s : NL × Nat), (ks.foldl (nmsO P cs) s).2 = s.2 + ks.length
  | [], _ => rfl
  | q :: ks, s => by
    rw [List.foldl_cons, nms_snd P cs ks]
    show s.2 + 1 + _ = _
    simp
    omega
theorem Cor.crashNames {φ : Nat → Nat} {s : Ps} {D : DD} (h : Cor φ s D) (cs : List Int) : ∀ (ks : List ByteArray) (N : (ByteArray → Option Nat) × Nat) (l : NL × Nat), Nm φ D.files.length N.1 l.1 → N.2 = l.2 → Nm φ D.files.length (ks.foldl (svO s.C cs) N).1 (ks.foldl (nmsO D.pend cs) l).1
  | [], _, _, hN, _ => hN
  | q :: ks, N, l, hN, he => by
    rw [List.foldl_cons, List.foldl_cons]
    refine h.crashNames cs ks _ _ ?_ ?_
    · show Nm φ _ (((s.C q).take ((chs cs N.2).toNat % ((s.C q).length + 1))).foldl apl N.1) (((mineF D.pend q).take ((chs cs l.2).toNat % ((mineF D.pend q).length + 1))).foldl chgF l.1)
      have hC : s.C q = (mineF D.pend q).map (cg φ) := h.C q
      rw [hC, List.length_map, he, ← List.map_take]
      refine hN.fold (fun c hc => h.P c ?_)
      exact (List.mem_filter.1 (List.mem_of_mem_take hc)).1
    · show N.2 + 1 = l.2 + 1
      rw [he]
/-- What a crash leaves of the files, the document's way. -/
def filO (fs : List (List Int × Nat)) (cs : List Int) (s : (NL × List (List Int × Nat)) × Nat) (x : ByteArray × Nat) : (NL × List (List Int × Nat)) × Nat :=
  ((putF s.1.1 x.1 (s.1.2.length + 1), s.1.2 ++ [(rmL (ctF fs x.2).1 (ctF fs x.2).2 cs s.2, (rmL (ctF fs x.2).1 (ctF fs x.2).2 cs s.2).length)]), rmN (ctF fs x.2).1 (ctF fs x.2).2 s.2)
def crashF (D : DD) (cs : List Int) (ks : List ByteArray) : DD :=
  { names := ((nmsG D cs ks).1.foldl (filO D.files cs) (([], []), ks.length)).1.1, lasting := ((nmsG D cs ks).1.foldl (filO D.files cs) (([], []), ks.length)).1.1, pend := [], files := ((nmsG D cs ks).1.foldl (filO D.files cs) (([], []), ks.length)).1.2, quota := D.quota, offAt := 0, count := 0, off := false }
/-- Names in their order, numbered. -/
def numL : Nat → List (ByteArray × List Int) → NL
  | _, [] => []
  | i, x :: l => (x.1, i + 1) :: numL (i + 1) l
theorem numL_snoc : ∀ (l : List (ByteArray × List Int)) (i : Nat) (x : ByteArray × List Int), numL i (l ++ [x]) = numL i l ++ [(x.1, i + l.length + 1)]
  | [], _, _ => rfl
  | y :: l, i, x => by
    show (y.1, i + 1) :: numL (i + 1) (l ++ [x]) = _
    rw [numL_snoc l (i + 1) x]
    show _ = (y.1, i + 1) :: (numL (i + 1) l ++ _)
    simp
    omega
theorem numL_keys : ∀ (l : List (ByteArray × List Int)) (i : Nat), (numL i l).map Prod.fst = l.map Prod.fst
  | [], _ => rfl
  | x :: l, i => by
    show x.1 :: (numL (i + 1) l).map Prod.fst = x.1 :: l.map Prod.fst
    rw [numL_keys l (i + 1)]
theorem ins_end {p : ByteArray} {f : Nat} : ∀ {l : NL}, (∀ x ∈ l, ltA x.1 p) → ins p f l = l ++ [(p, f)]
  | [], _ => rfl
  | x :: l, h => by
    have hx := h x (by simp)
    unfold ins
    rw [if_neg (ltA_ne hx), if_neg (by rw [leB_false.2 hx]; decide), ins_end (fun y hy => h y (by simp [hy]))]
    rfl
theorem put_end {p : ByteArray} {f : Nat} {l : NL} (hs : Srt l) (hf : f ≠ 0) (h : ∀ x ∈ l, ltA x.1 p) : putF l p f = l ++ [(p, f)] := by
  rw [putF_ins hs p hf, ins_end h]
theorem srt_num {l : List (ByteArray × List Int)} (h : (l.map Prod.fst).Pairwise ltA) (i : Nat) : Srt (numL i l) := by
  have : ((numL i l).map Prod.fst).Pairwise ltA := by rw [numL_keys]; exact h
  exact List.pairwise_map.1 this
/-- The document's files go along with the program's. -/
theorem fil_cr {fs : List (List Int × Nat)} {N : ByteArray → Option Nat} {F : Nat → Option (List Int × Nat)} {cs : List Int} : ∀ (m : NL) (l : List (ByteArray × List Int)) (i : Nat),
    ((l.map Prod.fst) ++ m.map Prod.fst).Pairwise ltA → (∀ x ∈ m, (N x.1).bind F = some (ctF fs x.2)) →
    m.foldl (filO fs cs) ((numL 0 l, l.map fun x => (x.2, x.2.length)), i) = ((numL 0 ((m.map Prod.fst).foldl (crO N F cs) (l, i)).1, ((m.map Prod.fst).foldl (crO N F cs) (l, i)).1.map fun x => (x.2, x.2.length)), ((m.map Prod.fst).foldl (crO N F cs) (l, i)).2)
  | [], _, _, _, _ => rfl
  | x :: m, l, i, hp, hx => by
    rw [List.foldl_cons, List.map_cons, List.foldl_cons]
    have h1 := List.pairwise_append.1 hp
    have e1 : crO N F cs (l, i) x.1 = (l ++ [(x.1, rmL (ctF fs x.2).1 (ctF fs x.2).2 cs i)], rmN (ctF fs x.2).1 (ctF fs x.2).2 i) := by
      unfold crO
      rw [hx x (by simp)]
    have e2 : filO fs cs ((numL 0 l, l.map fun x => (x.2, x.2.length)), i) x = ((numL 0 (l ++ [(x.1, rmL (ctF fs x.2).1 (ctF fs x.2).2 cs i)]), (l ++ [(x.1, rmL (ctF fs x.2).1 (ctF fs x.2).2 cs i)]).map fun x => (x.2, x.2.length)), rmN (ctF fs x.2).1 (ctF fs x.2).2 i) := by
      unfold filO
      simp only [List.length_map]
      rw [put_end (srt_num h1.1 0) (by omega) (fun y hy => ?_), numL_snoc, List.map_append]
      · simp
      · have : y.1 ∈ (numL 0 l).map Prod.fst := List.mem_map_of_mem hy
        rw [numL_keys] at this
        exact h1.2.2 _ this _ (by simp)
    rw [e1, e2]
    refine fil_cr m _ _ ?_ (fun y hy => hx y (by simp [hy]))
    rw [List.map_append, List.append_assoc]
    exact hp
theorem fold_keys {N : ByteArray → Option Nat} {F : Nat → Option (List Int × Nat)} {cs : List Int} (ks : List ByteArray) (h : ∀ p ∈ ks, (N p).bind F ≠ none) : ∀ (s : List (ByteArray × List Int) × Nat), (ks.foldl (crO N F cs) s).1.map Prod.fst = s.1.map Prod.fst ++ ks := by
  induction ks with
  | nil => intro s; simp
  | cons p ks ih =>
    intro s
    rw [List.foldl_cons, ih (fun q hq => h q (by simp [hq]))]
    have : (crO N F cs s p).1.map Prod.fst = s.1.map Prod.fst ++ [p] := by
      unfold crO
      cases hx : (N p).bind F with
      | none => exact absurd hx (h p (by simp))
      | some x => simp
    rw [this]
    simp
/-- A list of files, told: the two ways. -/
theorem Cor.told {φ : Nat → Nat} {s : Ps} {D : DD} (h : Cor φ s D) {ps : List ByteArray} (hk : KeysOk (nmV s.N) ps) : flP s ps = D.names.map fun x => (x.1, (ctF D.files x.2).1) := by
  have e : ps = D.names.map Prod.fst := by
    refine rise_unique (keys_rise hk) (srt_keys h.N.srt) (fun p => ?_)
    rw [hk.mem]
    unfold nmV
    rw [h.N.eq]
    constructor
    · intro h1
      cases hl : lk D.names p with
      | none => rw [hl] at h1; exact absurd rfl h1
      | some f => exact List.mem_map.2 ⟨_, lk_mem hl, rfl⟩
    · intro h1
      obtain ⟨x, hx, rfl⟩ := List.mem_map.1 h1
      rw [mem_lk h.N.srt (show (x.1, x.2) ∈ D.names from hx)]
      simp
  rw [e]
  unfold flP
  rw [List.map_map]
  refine List.map_congr_left (fun x hx => ?_)
  have hl := mem_lk h.N.srt (show (x.1, x.2) ∈ D.names from hx)
  have hr := h.N.rng x hx
  have : fileP s x.1 = some (φ x.2, (ctF D.files x.2).1, (ctF D.files x.2).2) := by
    unfold fileP
    rw [h.N.eq, hl]
    show (s.F (φ x.2)).map _ = _
    rw [h.F _ hr.1 hr.2.1]
    rfl
  show (x.1, match fileP s x.1 with | none => [] | some (_, xs, _) => xs) = _
  rw [this]
theorem numL_lk : ∀ {l : List (ByteArray × List Int)} (i : Nat), (l.map Prod.fst).Pairwise ltA → ∀ j (hj : j < l.length), lk (numL i l) (l[j]'hj).1 = some (i + j + 1)
  | [], _, _, _, hj => absurd hj (by simp)
  | x :: l, i, h, 0, _ => by
    show (if x.1 = x.1 then some (i + 1) else _) = _
    rw [if_pos rfl]
  | x :: l, i, h, j + 1, hj => by
    have h1 := (List.pairwise_cons.1 h).1
    have h2 := (List.pairwise_cons.1 h).2
    have hj' : j < l.length := by simpa using hj
    show (if x.1 = (l[j]'hj').1 then some (i + 1) else lk (numL (i + 1) l) (l[j]'hj').1) = _
    rw [if_neg (ltA_ne (h1 _ (List.mem_map_of_mem (List.getElem_mem hj')))), numL_lk (i + 1) h2 j hj']
    congr 1
    omega
theorem numL_rng : ∀ {l : List (ByteArray × List Int)} (i : Nat), ∀ x ∈ numL i l, i + 1 ≤ x.2 ∧ x.2 ≤ i + l.length
  | [], _, _, h => absurd h (by simp [numL])
  | y :: l, i, x, h => by
    rcases List.mem_cons.1 h with h | h
    · subst h; simp
    · have := numL_rng (i + 1) x h
      simp
      omega
theorem sum_num {l : List (ByteArray × List Int)} : ∀ (pre : List (ByteArray × List Int)), sumF ((pre ++ l).map fun x => (x.2, x.2.length)) (numL pre.length l) = (sumL l : Nat) := by
  induction l with
  | nil => intro pre; rfl
  | cons x l ih =>
    intro pre
    have := ih (pre ++ [x])
    rw [List.append_assoc, List.singleton_append, List.length_append, List.length_singleton] at this
    show sumF _ ((x.1, pre.length + 1) :: numL (pre.length + 1) l) = _
    rw [sumF_cons, this]
    have e : lenF ((pre ++ x :: l).map fun x => (x.2, x.2.length)) (pre.length + 1) = x.2.length := by
      unfold lenF ctF
      simp [List.getD]
    show lenF _ (pre.length + 1) + _ = _
    rw [e]
    unfold sumL
    simp
/-- Both disks behind a crash. -/
theorem Cor.crash {φ : Nat → Nat} {s s' : Ps} {D : DD} (h : Cor φ s D) {cs : List Int} {ks ps : List ByteArray} (hc : CrD s cs s' ks ps) : ∃ φ', Cor φ' s' (crashF D cs ks) := by
  have hn : Nm φ D.files.length (svF s.C cs s.L 0 ks) (nmsG D cs ks).1 := h.crashNames cs ks (s.L, 0) (D.lasting, 0) h.L rfl
  have hps : ps = (nmsG D cs ks).1.map Prod.fst := by
    refine rise_unique (keys_rise hc.hps) (srt_keys hn.srt) (fun p => ?_)
    rw [hc.hps.mem]
    unfold nmV
    rw [hn.eq]
    constructor
    · intro h1
      cases hl : lk (nmsG D cs ks).1 p with
      | none => rw [hl] at h1; exact absurd rfl h1
      | some f => exact List.mem_map.2 ⟨_, lk_mem hl, rfl⟩
    · intro h1
      obtain ⟨x, hx, rfl⟩ := List.mem_map.1 h1
      rw [mem_lk hn.srt (show (x.1, x.2) ∈ (nmsG D cs ks).1 from hx)]
      simp
  have hx : ∀ x ∈ (nmsG D cs ks).1, ((svF s.C cs s.L 0 ks) x.1).bind s.F = some (ctF D.files x.2) := fun x hx => by
    have hr := hn.rng x hx
    rw [hn.eq, mem_lk hn.srt (show (x.1, x.2) ∈ (nmsG D cs ks).1 from hx)]
    exact h.F _ hr.1 hr.2.1
  have hcri := hc.cri
  rw [hps] at hcri
  have hfc := fil_cr (cs := cs) (nmsG D cs ks).1 [] ks.length (by simpa using srt_keys hn.srt) hx
  have hkeys := fold_keys (cs := cs) (N := svF s.C cs s.L 0 ks) (F := s.F) ((nmsG D cs ks).1.map Prod.fst) (fun p hp => by
    obtain ⟨x, hx1, rfl⟩ := List.mem_map.1 hp
    rw [hx x hx1]
    exact fun e => nomatch e) ([], ks.length)
  have hemp : ∀ p ∈ (nmsG D cs ks).1.map Prod.fst, p ≠ ByteArray.empty := fun p hp => by
    obtain ⟨x, hx1, rfl⟩ := List.mem_map.1 hp
    exact (hn.rng x hx1).2.2
  have hsrt := srt_keys hn.srt
  unfold crG at hcri
  unfold crashF
  have hfc : (nmsG D cs ks).1.foldl (filO D.files cs) (([], []), ks.length) = _ := hfc
  rw [hfc]
  obtain ⟨l, hl⟩ : ∃ l, (((nmsG D cs ks).1.map Prod.fst).foldl (crO (svF s.C cs s.L 0 ks) s.F cs) ([], ks.length)).1 = l := ⟨_, rfl⟩
  rw [hl]
  rw [hl] at hcri hkeys
  show ∃ φ', Cor φ' s' { names := numL 0 l, lasting := numL 0 l, pend := [], files := l.map fun x => (x.2, x.2.length), quota := D.quota, offAt := 0, count := 0, off := false }
  have hkeys : l.map Prod.fst = (nmsG D cs ks).1.map Prod.fst := by simpa using hkeys
  have hls : (l.map Prod.fst).Pairwise ltA := by rw [hkeys]; exact hsrt
  have hlen : (l.map fun x => (x.2, x.2.length)).length = l.length := by simp
  have hnum : Nm (fun i => (s'.N ((l.map Prod.fst).getD (i - 1) ByteArray.empty)).getD 0) l.length s'.N (numL 0 l) := by
    refine ⟨srt_num hls 0, fun p => ?_, fun x hx => ?_⟩
    · by_cases hp : p ∈ l.map Prod.fst
      · obtain ⟨y, hy, rfl⟩ := List.mem_map.1 hp
        obtain ⟨j, hj, hjy⟩ := List.getElem_of_mem hy
        have e1 := numL_lk 0 hls j hj
        rw [hjy] at e1
        rw [e1]
        obtain ⟨f, hf, -⟩ := hcri.yes y.1 y.2 hy
        show s'.N y.1 = some ((s'.N ((l.map Prod.fst).getD (0 + j + 1 - 1) ByteArray.empty)).getD 0)
        have e2 : (l.map Prod.fst).getD (0 + j + 1 - 1) ByteArray.empty = y.1 := by
          rw [show 0 + j + 1 - 1 = j from by omega]
          simp [List.getD, List.getElem?_eq_getElem hj, hjy]
        rw [e2, hf]
        rfl
      · rw [hcri.no p hp]
        cases hk : lk (numL 0 l) p with
        | none => rfl
        | some f =>
          have : p ∈ (numL 0 l).map Prod.fst := List.mem_map.2 ⟨_, lk_mem hk, rfl⟩
          rw [numL_keys] at this
          exact absurd this hp
    · have h1 := numL_rng 0 x hx
      refine ⟨by omega, by omega, ?_⟩
      have : x.1 ∈ (numL 0 l).map Prod.fst := List.mem_map_of_mem hx
      rw [numL_keys, hkeys] at this
      exact hemp _ this
  refine ⟨fun i => (s'.N ((l.map Prod.fst).getD (i - 1) ByteArray.empty)).getD 0, ?_⟩
  have hfile : ∀ f, 1 ≤ f → f ≤ l.length → ∃ (hf : f - 1 < l.length), ∃ g, s'.N ((l.map Prod.fst).getD (f - 1) ByteArray.empty) = some g ∧ (l.map Prod.fst).getD (f - 1) ByteArray.empty = (l[f - 1]'hf).1 ∧ s'.F g = some ((l[f - 1]'hf).2, (l[f - 1]'hf).2.length) := fun f h1 h2 => by
    have hf : f - 1 < l.length := by omega
    have e2 : (l.map Prod.fst).getD (f - 1) ByteArray.empty = (l[f - 1]'hf).1 := by simp [List.getD, List.getElem?_eq_getElem hf]
    obtain ⟨g, hg, hg2⟩ := hcri.yes (l[f - 1]'hf).1 (l[f - 1]'hf).2 (List.getElem_mem hf)
    exact ⟨hf, g, by rw [e2]; exact hg, e2, hg2⟩
  refine ⟨hnum.more (by rw [hlen]; exact Nat.le_refl _) (fun _ _ => rfl), ?_, fun q => hcri.C q, fun c hc => absurd hc (by simp), fun f h1 h2 => ?_, fun i j a b c d e => ?_, hcri.quota.trans h.quota, hcri.last, hcri.count, hcri.dark, ?_, hcri.R⟩
  · rw [← hcri.NL]
    exact hnum.more (by rw [hlen]; exact Nat.le_refl _) (fun _ _ => rfl)
  · have h2 : f ≤ l.length := by rw [hlen] at h2; exact h2
    obtain ⟨hf, g, e1, -, e3⟩ := hfile f h1 h2
    show s'.F ((s'.N ((l.map Prod.fst).getD (f - 1) ByteArray.empty)).getD 0) = _
    rw [e1]
    show s'.F g = _
    rw [e3]
    unfold ctF
    simp [List.getD, List.getElem?_eq_getElem hf]
  · have b : i ≤ l.length := by rw [hlen] at b; exact b
    have d : j ≤ l.length := by rw [hlen] at d; exact d
    obtain ⟨hi, g, e1, e2, -⟩ := hfile i a b
    obtain ⟨hj, g', f1, f2, -⟩ := hfile j c d
    have e : (s'.N ((l.map Prod.fst).getD (i - 1) ByteArray.empty)).getD 0 = (s'.N ((l.map Prod.fst).getD (j - 1) ByteArray.empty)).getD 0 := e
    rw [e1, f1] at e
    have e : g = g' := e
    subst e
    have hpq := hcri.inj _ _ _ e1 f1
    rw [e2, f2] at hpq
    have k1 := numL_lk 0 hls (i - 1) hi
    have k2 := numL_lk 0 hls (j - 1) hj
    rw [hpq, k2] at k1
    injection k1 with k1
    omega
  · show s'.used = sumF _ (numL 0 l)
    rw [hcri.used]
    have := sum_num (l := l) []
    exact this.symm

open Go.RowKit Go.WideMaps Go.Maps

/-- What all files of a disk are behind a crash, told. -/
theorem CrI.told {q : Int} {l : List (ByteArray × List Int)} {s : Ps} (h : CrI q l s) {ps : List ByteArray} (hk : KeysOk (nmV s.N) ps) (hl : (l.map Prod.fst).Pairwise ltA) : flP s ps = l := by
  have e : ps = l.map Prod.fst := by
    refine rise_unique (keys_rise hk) hl (fun p => ?_)
    rw [hk.mem]
    unfold nmV
    constructor
    · intro h1
      by_cases hp : p ∈ l.map Prod.fst
      · exact hp
      · rw [h.no p hp] at h1; exact absurd rfl h1
    · intro hp
      obtain ⟨x, hx, rfl⟩ := List.mem_map.1 hp
      obtain ⟨f, hf, -⟩ := h.yes x.1 x.2 hx
      rw [hf]
      simp
  rw [e]
  unfold flP
  rw [List.map_map]
  conv => rhs; rw [← List.map_id l]
  refine List.map_congr_left (fun x hx => ?_)
  obtain ⟨f, hf, hF⟩ := h.yes x.1 x.2 hx
  have : fileP s x.1 = some (f, x.2, x.2.length) := by
    unfold fileP
    rw [hf]
    show (s.F f).map _ = _
    rw [hF]
    rfl
  show (x.1, match fileP s x.1 with | none => [] | some (_, xs, _) => xs) = _
  rw [this]
  rfl
theorem cr_whole {N : ByteArray → Option Nat} {F : Nat → Option (List Int × Nat)} {cs : List Int} {g : ByteArray → List Int} : ∀ (ps : List ByteArray), (∀ p ∈ ps, (N p).bind F = some (g p, (g p).length)) → ∀ (s : List (ByteArray × List Int) × Nat), (ps.foldl (crO N F cs) s).1 = s.1 ++ ps.map fun p => (p, g p)
  | [], _, s => by simp
  | p :: ps, h, s => by
    rw [List.foldl_cons, cr_whole ps (fun q hq => h q (by simp [hq]))]
    have : (crO N F cs s p).1 = s.1 ++ [(p, g p)] := by
      unfold crO
      rw [h p (by simp)]
      show s.1 ++ [(p, rmL (g p) (g p).length cs s.2)] = _
      have e : rmL (g p) (g p).length cs s.2 = g p := by unfold rmL; rw [if_pos rfl]
      rw [e]
    rw [this]
    simp
/-- A second crash finds the same. -/
theorem crash_twice {q : Int} {l : List (ByteArray × List Int)} {s s' : Ps} {cs : List Int} {ks ps : List ByteArray} (h : CrI q l s) (hl : (l.map Prod.fst).Pairwise ltA) (hc : CrD s cs s' ks ps) {ps' : List ByteArray} (hk : KeysOk (nmV s'.N) ps') : flP s' ps' = l := by
  have hN : ∀ p, svF s.C cs s.L 0 ks p = s.N p := fun p => by
    rw [svF_off (fun q c hc => by rw [h.C] at hc; exact absurd hc (by simp)), h.NL]
  have e : ps = l.map Prod.fst := by
    refine rise_unique (keys_rise hc.hps) hl (fun p => ?_)
    rw [hc.hps.mem]
    unfold nmV
    rw [hN]
    constructor
    · intro h1
      by_cases hp : p ∈ l.map Prod.fst
      · exact hp
      · rw [h.no p hp] at h1; exact absurd rfl h1
    · intro hp
      obtain ⟨x, hx, rfl⟩ := List.mem_map.1 hp
      obtain ⟨f, hf, -⟩ := h.yes x.1 x.2 hx
      rw [hf]
      simp
  have hg : ∀ x ∈ l, (match fileP s x.1 with | none => [] | some (_, xs, _) => xs) = x.2 := fun x hx => by
    obtain ⟨f, hf, hF⟩ := h.yes x.1 x.2 hx
    have : fileP s x.1 = some (f, x.2, x.2.length) := by
      unfold fileP
      rw [hf]
      show (s.F f).map _ = _
      rw [hF]
      rfl
    rw [this]
  have hw := cr_whole (N := svF s.C cs s.L 0 ks) (F := s.F) (cs := cs) (g := fun p => match fileP s p with | none => [] | some (_, xs, _) => xs) ps (fun p hp => by
    rw [e] at hp
    obtain ⟨x, hx, rfl⟩ := List.mem_map.1 hp
    obtain ⟨f, hf, hF⟩ := h.yes x.1 x.2 hx
    rw [hN, hf]
    simp only [hg x hx]
    exact hF) ([], ks.length)
  have hcri := hc.cri
  unfold crG at hcri
  rw [hw, e, List.map_map] at hcri
  have hid : (([], ks.length) : List (ByteArray × List Int) × Nat).1 ++ l.map ((fun p => (p, match fileP s p with | none => [] | some (_, xs, _) => xs)) ∘ Prod.fst) = l := by
    show [] ++ _ = _
    rw [List.nil_append]
    conv => rhs; rw [← List.map_id l]
    refine List.map_congr_left (fun x hx => ?_)
    show (x.1, _) = x
    rw [hg x hx]
  rw [hid] at hcri
  exact hcri.told hk hl
/-- Of each file, no more is synced than there is. -/
theorem ds_le {lo : Nat} {w : World} {d n m : Nat} {s : Ps} (h : Ds lo w d s n m) {f : Nat} {x : List Int × Nat} (hF : s.F f = some x) : x.2 ≤ x.1.length ∧ AllB x.1 := by
  obtain ⟨B, S, h1, rfl, h3, h4⟩ := h
  have hF : (S.F f).map (fun c : FileC => (c.xs, c.s)) = some x := hF
  cases hS : S.F f with
  | none => rw [hS] at hF; cases hF
  | some c =>
    rw [hS] at hF
    injection hF with hF
    subst hF
    exact ⟨(h1.bd.fl f c hS).le, (h1.bd.fl f c hS).all⟩

open Go.RowKit Go.WideMaps Go.Maps

/-- A folder's text with a / ahead of it. -/
def slF (p : ByteArray) : ByteArray := (⟨#[47]⟩ : ByteArray) ++ p
theorem slF_list (p : ByteArray) : (slF p).data.toList = 47 :: p.data.toList := by
  unfold slF
  simp
theorem slF_size (p : ByteArray) : (slF p).size = p.size + 1 := by
  have h := congrArg List.length (slF_list p)
  simp only [Array.length_toList, List.length_cons] at h
  exact h
theorem slF_cut (p : ByteArray) : (slF p).extract 1 (slF p).size = p := by
  apply ba_ext
  have h := slF_list p
  have hs := slF_size p
  rw [ByteArray.data_extract, Array.toList_extract, h, hs]
  have e : p.size = p.data.toList.length := by rw [Array.length_toList]; rfl
  rw [e]
  show ((47 :: p.data.toList).take (p.data.toList.length + 1)).drop 1 = p.data.toList
  rw [List.take_succ_cons, List.drop_succ_cons, List.drop_zero, List.take_length]
theorem slF_lt {a b : ByteArray} : ltA (slF a) (slF b) ↔ ltA a b := by
  unfold ltA
  rw [slF_list, slF_list, List.cons_lt_cons_iff]
  constructor
  · rintro (h | ⟨-, h⟩)
    · exact absurd h (by decide)
    · exact h
  · intro h
    exact .inr ⟨rfl, h⟩
def allF (P : List PnC) (l : NL) : NL := P.foldl (fun l c => putF l (slF (folF c.path)) 1) l
def foldersF (P : List PnC) : List ByteArray := (allF P []).map fun x => x.1.extract 1 x.1.size
theorem allF_srt : ∀ (P : List PnC) {l : NL}, Srt l → Srt (allF P l)
  | [], _, h => h
  | _ :: P, _, h => allF_srt P (srt_put h _ _)
theorem allF_lk : ∀ (P : List PnC) {l : NL}, Srt l → ∀ q, lk (allF P l) q ≠ none ↔ (∃ c ∈ P, q = slF (folF c.path)) ∨ lk l q ≠ none
  | [], l, _, q => by
    show lk l q ≠ none ↔ _
    simp
  | c :: P, l, h, q => by
    show lk (allF P (putF l (slF (folF c.path)) 1)) q ≠ none ↔ _
    rw [allF_lk P (srt_put h _ _), lk_put h]
    by_cases e : q = slF (folF c.path)
    · rw [if_pos e, if_neg (by decide)]
      constructor
      · intro _
        exact .inl ⟨c, by simp, e⟩
      · intro _
        exact .inr (fun h => nomatch h)
    · rw [if_neg e]
      constructor
      · rintro (⟨x, hx, h1⟩ | h1)
        · exact .inl ⟨x, by simp [hx], h1⟩
        · exact .inr h1
      · rintro (⟨x, hx, h1⟩ | h1)
        · rcases List.mem_cons.1 hx with rfl | hx
          · exact absurd h1 e
          · exact .inl ⟨x, hx, h1⟩
        · exact .inr h1
theorem allF_key {P : List PnC} {x : ByteArray × Nat} (hx : x ∈ allF P []) : ∃ c ∈ P, x.1 = slF (folF c.path) := by
  have hs : Srt (allF P []) := allF_srt P (List.Pairwise.nil)
  have h1 := mem_lk hs (show (x.1, x.2) ∈ allF P [] from hx)
  rcases (allF_lk P (l := []) List.Pairwise.nil x.1).1 (by rw [h1]; exact fun h => nomatch h) with h | h
  · exact h
  · exact absurd rfl h
theorem folders_rise (P : List PnC) : (foldersF P).Pairwise ltA := by
  unfold foldersF
  refine List.pairwise_map.2 ?_
  have hs : Srt (allF P []) := allF_srt P (List.Pairwise.nil)
  refine List.Pairwise.imp_of_mem ?_ hs
  intro a b ha hb hab
  obtain ⟨c, -, hc⟩ := allF_key ha
  obtain ⟨d, -, hd⟩ := allF_key hb
  rw [hc, hd, slF_cut, slF_cut]
  rw [hc, hd] at hab
  exact slF_lt.1 hab
theorem folders_mem (P : List PnC) (q : ByteArray) : q ∈ foldersF P ↔ ∃ c ∈ P, folF c.path = q := by
  unfold foldersF
  rw [List.mem_map]
  constructor
  · rintro ⟨x, hx, rfl⟩
    obtain ⟨c, hc, h1⟩ := allF_key hx
    exact ⟨c, hc, by rw [h1, slF_cut]⟩
  · rintro ⟨c, hc, rfl⟩
    have h1 := (allF_lk P (l := []) List.Pairwise.nil (slF (folF c.path))).2 (.inl ⟨c, hc, rfl⟩)
    cases hl : lk (allF P []) (slF (folF c.path)) with
    | none => exact absurd hl h1
    | some f => exact ⟨_, lk_mem hl, slF_cut _⟩
/-- The program's folders are the document's. -/
theorem Cor.folders {φ : Nat → Nat} {s : Ps} {D : DD} (h : Cor φ s D) {ks : List ByteArray} (hk : KeysOk (fun q => if (s.C q).isEmpty then none else some (Value.bool true)) ks) : ks = foldersF D.pend := by
  refine rise_unique (keys_rise hk) (folders_rise _) (fun q => ?_)
  rw [hk.mem, folders_mem, h.C]
  constructor
  · intro h1
    cases hf : D.pend.filter (fun c => decide (folF c.path = q)) with
    | nil => rw [hf] at h1; exact absurd rfl h1
    | cons c l =>
      have hm : c ∈ D.pend.filter (fun c => decide (folF c.path = q)) := by rw [hf]; simp
      have := List.mem_filter.1 hm
      exact ⟨c, this.1, by simpa using this.2⟩
  · rintro ⟨c, hc, h1⟩
    have hm : c ∈ D.pend.filter (fun c => decide (folF c.path = q)) := List.mem_filter.2 ⟨hc, by simpa using h1⟩
    cases hf : D.pend.filter (fun c => decide (folF c.path = q)) with
    | nil => rw [hf] at hm; cases hm
    | cons c l => simp

open Go.RowKit Go.WideMaps Go.Maps

theorem chg_len (l : NL) (h : Srt l) (c : PnC) : (chgF l c).length ≤ l.length + 1 := by
  unfold chgF
  split
  · exact put_len l h _ _
  · have h1 := put_len _ (srt_put h c.frm 0) c.path c.file
    have h2 : (putF l c.frm 0).length ≤ l.length := by
      rw [putF_zero]
      exact List.length_filter_le _ _
    omega
theorem fold_len : ∀ (P : List PnC) (l : NL), Srt l → (P.foldl chgF l).length ≤ l.length + P.length ∧ Srt (P.foldl chgF l)
  | [], l, h => ⟨by simp, h⟩
  | c :: P, l, h => by
    rw [List.foldl_cons, List.length_cons]
    have h1 := fold_len P (chgF l c) (srt_chg h c)
    have h2 := chg_len l h c
    exact ⟨by omega, h1.2⟩
theorem filter_two {α : Type} (p : α → Bool) : ∀ l : List α, (l.filter p).length + (l.filter fun x => !p x).length = l.length
  | [] => rfl
  | x :: l => by
    have h := filter_two p l
    cases hx : p x <;> simp [hx] <;> omega
/-- A disk upon which at most k calls were made. -/
structure DL (D : DD) (k : Nat) : Prop where
  n : D.names.length ≤ k
  l : D.lasting.length + D.pend.length ≤ k
  f : D.files.length ≤ k
  x : ∀ x ∈ D.files, x.1.length ≤ 1000 * k ∧ x.2 ≤ x.1.length
  c0 : 0 ≤ D.count
  c1 : D.count ≤ k
  p : ∀ c ∈ D.pend, c.path.size ≤ 200
theorem DL.weak {D : DD} {k k' : Nat} (h : DL D k) (hk : k ≤ k') : DL D k' := by
  refine ⟨Nat.le_trans h.n hk, Nat.le_trans h.l hk, Nat.le_trans h.f hk, fun x hx => ?_, h.c0, ?_, h.p⟩
  · have := h.x x hx
    exact ⟨by omega, this.2⟩
  · have := h.c1
    omega
theorem ct_ok {fs : List (List Int × Nat)} {k : Nat} (h : ∀ x ∈ fs, x.1.length ≤ k ∧ x.2 ≤ x.1.length) (f : Nat) : (ctF fs f).1.length ≤ k ∧ (ctF fs f).2 ≤ (ctF fs f).1.length := by
  unfold ctF
  rw [List.getD_eq_getElem?_getD]
  cases hx : fs[f - 1]? with
  | none => simp
  | some y => exact h y (List.mem_of_getElem? hx)
theorem DL.do {D : DD} {k : Nat} (h : DL D k) (hn : Srt D.names) (hl : Srt D.lasting) {c : Cl} (hc : c.data.length ≤ 1000) : DL (doF D c) (k + 1) := by
  have hw := h.weak (Nat.le_succ k)
  have ht : DL (tickF D) (k + 1) := ⟨hw.n, hw.l, hw.f, hw.x, by show 0 ≤ D.count + 1; have := h.c0; omega, by show D.count + 1 ≤ _; have := h.c1; push_cast; omega, h.p⟩
  unfold doF
  split
  · exact hw
  · split
    · exact ht
    · split
      · exact ht
      · rename_i hfz
        have hbad : badF c = false := by
          cases hb : badF c with
          | false => rfl
          | true => exact absurd (by unfold failF; rw [hb, if_pos rfl]; decide) hfz
        have hsz : c.kind ≠ 6 → c.path.size ≤ 200 := fun h6 => path_size (by
          unfold badF at hbad
          rw [if_neg h6] at hbad
          simp at hbad
          exact hbad.1)
        have hsd : c.kind = 4 → c.dst.size ≤ 200 := fun h4 => path_size (by
          unfold badF at hbad
          rw [if_neg (by omega)] at hbad
          simp [h4] at hbad
          exact hbad.2.1)
        have hnm : ∀ (E : DD) (x : PnC), Srt E.names → E.names.length ≤ k → E.lasting.length + E.pend.length ≤ k → E.files.length ≤ k + 1 → (∀ x ∈ E.files, x.1.length ≤ 1000 * (k + 1) ∧ x.2 ≤ x.1.length) → 0 ≤ E.count → E.count ≤ (k + 1 : Nat) → (∀ c ∈ E.pend, c.path.size ≤ 200) → x.path.size ≤ 200 → DL (namedF E x) (k + 1) := fun E x h1 h2 h3 h4 h5 h6 h7 h8 h9 =>
          ⟨by
            show (chgF E.names x).length ≤ k + 1
            have := chg_len E.names h1 x
            omega, by
            show E.lasting.length + (E.pend ++ [x]).length ≤ k + 1
            rw [List.length_append, List.length_singleton]
            omega, h4, h5, h6, h7, fun y hy => by
            rcases List.mem_append.1 hy with hy | hy
            · exact h8 y hy
            · simp at hy
              subst hy
              exact h9⟩
        unfold madeF
        split
        · rename_i hk1
          refine hnm _ _ hn h.n h.l ?_ (fun x hx => ?_) ht.c0 ht.c1 h.p (hsz (by omega))
          · show (D.files ++ [([], 0)]).length ≤ k + 1
            have := h.f
            rw [List.length_append, List.length_singleton]
            omega
          · rcases List.mem_append.1 hx with hx | hx
            · exact hw.x x hx
            · simp at hx
              subst hx
              simp
        · split
          · have hy := ct_ok h.x (nmF D.names c.path)
            refine ⟨hw.n, hw.l, ?_, fun x hx => ?_, ht.c0, ht.c1, h.p⟩
            · show (putC D.files _ _).length ≤ k + 1
              unfold putC
              rw [List.length_set]
              exact hw.f
            · rcases List.mem_or_eq_of_mem_set hx with hx | hx
              · exact hw.x x hx
              · subst hx
                show ((ctF D.files (nmF D.names c.path)).1 ++ c.data).length ≤ _ ∧ (ctF D.files (nmF D.names c.path)).2 ≤ ((ctF D.files (nmF D.names c.path)).1 ++ c.data).length
                rw [List.length_append]
                omega
          · split
            · have hy := ct_ok h.x (nmF D.names c.path)
              refine ⟨hw.n, hw.l, ?_, fun x hx => ?_, ht.c0, ht.c1, h.p⟩
              · show (putC D.files _ _).length ≤ k + 1
                unfold putC
                rw [List.length_set]
                exact hw.f
              · rcases List.mem_or_eq_of_mem_set hx with hx | hx
                · exact hw.x x hx
                · subst hx
                  show (ctF D.files (nmF D.names c.path)).1.length ≤ _ ∧ (ctF D.files (nmF D.names c.path)).1.length ≤ (ctF D.files (nmF D.names c.path)).1.length
                  omega
            · split
              · rename_i hk4
                split
                · exact hnm _ _ hn h.n h.l hw.f hw.x ht.c0 ht.c1 h.p (hsd hk4)
                · exact ht
              · split
                · rename_i hk5
                  exact hnm _ _ hn h.n h.l hw.f hw.x ht.c0 ht.c1 h.p (hsz (by omega))
                · refine ⟨hw.n, ?_, hw.f, hw.x, ht.c0, ht.c1, fun y hy => h.p y (List.mem_filter.1 hy).1⟩
                  show (lastF c.path D.lasting D.pend).length + (D.pend.filter fun x => !decide (folF x.path = c.path)).length ≤ k + 1
                  have h1 := (fold_len (D.pend.filter fun x => decide (folF x.path = c.path)) D.lasting hl).1
                  have h2 := filter_two (fun x : PnC => decide (folF x.path = c.path)) D.pend
                  have h3 := h.l
                  unfold lastF
                  omega
theorem fil_len (fs : List (List Int × Nat)) (cs : List Int) : ∀ (m : NL) (s : (NL × List (List Int × Nat)) × Nat), (m.foldl (filO fs cs) s).1.2.length = s.1.2.length + m.length
  | [], s => by simp
  | x :: m, s => by
    rw [List.foldl_cons, fil_len fs cs m]
    show (s.1.2 ++ [_]).length + m.length = _
    rw [List.length_append, List.length_singleton, List.length_cons]
    omega
theorem nms_len (P : List PnC) (cs : List Int) : ∀ (ks : List ByteArray) (s : NL × Nat), Srt s.1 → (ks.foldl (nmsO P cs) s).1.length ≤ s.1.length + (ks.map fun q => (mineF P q).length).sum ∧ Srt (ks.foldl (nmsO P cs) s).1
  | [], s, h => ⟨by simp, h⟩
  | q :: ks, s, h => by
    rw [List.foldl_cons, List.map_cons, List.sum_cons]
    have h0 := fold_len ((mineF P q).take ((chs cs s.2).toNat % ((mineF P q).length + 1))) s.1 h
    have h1 := nms_len P cs ks (nmsO P cs s q) h0.2
    have h2 : (nmsO P cs s q).1.length ≤ s.1.length + (mineF P q).length := by
      refine Nat.le_trans h0.1 ?_
      rw [List.length_take]
      omega
    exact ⟨by omega, h1.2⟩
/-- Each pending change has one folder. -/
theorem mine_sum (P : List PnC) : ∀ (ks : List ByteArray), ks.Nodup → (ks.map fun q => (mineF P q).length).sum ≤ P.length := by
  induction P with
  | nil =>
    intro ks hk0
    clear hk0
    have : (ks.map fun q => (mineF [] q).length) = ks.map fun _ => 0 := rfl
    rw [this]
    clear this
    induction ks with
    | nil => simp
    | cons q ks ih => simpa using ih
  | cons c P ih =>
    intro ks hk
    have e : ∀ q, (mineF (c :: P) q).length = (mineF P q).length + if folF c.path = q then 1 else 0 := fun q => by
      unfold mineF
      by_cases h : folF c.path = q <;> simp [h]
    have hs : ∀ ks : List ByteArray, (ks.map fun q => (mineF (c :: P) q).length).sum = (ks.map fun q => (mineF P q).length).sum + (ks.map fun q => if folF c.path = q then 1 else 0).sum := fun ks => by
      induction ks with
      | nil => rfl
      | cons q ks ih2 =>
        rw [List.map_cons, List.sum_cons, ih2, List.map_cons, List.sum_cons, List.map_cons, List.sum_cons, e]
        omega
    have h1 : ∀ ks : List ByteArray, ks.Nodup → (ks.map fun q => if folF c.path = q then 1 else 0).sum ≤ 1 := fun ks => by
      induction ks with
      | nil => simp
      | cons q ks ih2 =>
        intro hn
        rw [List.map_cons, List.sum_cons]
        have hn2 := List.nodup_cons.1 hn
        by_cases h : folF c.path = q
        · have h0 : (ks.map fun q => if folF c.path = q then 1 else 0).sum = 0 := by
            have : ∀ l : List ByteArray, (∀ x ∈ l, x ≠ folF c.path) → (l.map fun q => if folF c.path = q then 1 else 0).sum = 0 := fun l => by
              induction l with
              | nil => simp
              | cons y l ih3 =>
                intro hl
                rw [List.map_cons, List.sum_cons, if_neg (fun e => hl y (by simp) e.symm), ih3 (fun x hx => hl x (by simp [hx]))]
            refine this ks (fun x hx e => hn2.1 ?_)
            rw [← h, ← e]
            exact hx
          rw [if_pos h, h0]
          decide
        · rw [if_neg h]
          have := ih2 hn2.2
          omega
    rw [hs, List.length_cons]
    have := ih ks hk
    have := h1 ks hk
    omega

open Go.RowKit Go.WideMaps Go.Maps

theorem fil_names (fs : List (List Int × Nat)) (cs : List Int) : ∀ (m : NL) (s : (NL × List (List Int × Nat)) × Nat), Srt s.1.1 → (m.foldl (filO fs cs) s).1.1.length ≤ s.1.1.length + m.length
  | [], s, _ => by simp
  | x :: m, s, h => by
    rw [List.foldl_cons, List.length_cons]
    have h1 := fil_names fs cs m (filO fs cs s x) (srt_put h _ _)
    have h2 : (filO fs cs s x).1.1.length ≤ s.1.1.length + 1 := put_len _ h _ _
    omega
theorem fil_dat (fs : List (List Int × Nat)) (cs : List Int) : ∀ (m : NL) (s : (NL × List (List Int × Nat)) × Nat), ∀ x ∈ (m.foldl (filO fs cs) s).1.2, x ∈ s.1.2 ∨ ∃ f i, x = (rmL (ctF fs f).1 (ctF fs f).2 cs i, (rmL (ctF fs f).1 (ctF fs f).2 cs i).length)
  | [], s, x, h => .inl h
  | y :: m, s, x, h => by
    rw [List.foldl_cons] at h
    rcases fil_dat fs cs m _ x h with h | h
    · have h : x ∈ s.1.2 ++ [(rmL (ctF fs y.2).1 (ctF fs y.2).2 cs s.2, (rmL (ctF fs y.2).1 (ctF fs y.2).2 cs s.2).length)] := h
      rcases List.mem_append.1 h with h | h
      · exact .inl h
      · rw [List.mem_singleton] at h
        exact .inr ⟨y.2, s.2, h⟩
    · exact .inr h
theorem nms_le {D : DD} {k : Nat} (h : DL D k) (hl : Srt D.lasting) (cs : List Int) (ks : List ByteArray) (hk : ks.Nodup) : (nmsG D cs ks).1.length ≤ k ∧ Srt (nmsG D cs ks).1 := by
  have h1 := nms_len D.pend cs ks (D.lasting, 0) hl
  have h2 := mine_sum D.pend ks hk
  have h3 := h.l
  refine ⟨?_, h1.2⟩
  have h4 := h1.1
  simp only at h4
  unfold nmsG
  omega
theorem folders_nodup (P : List PnC) : (foldersF P).Nodup := List.Pairwise.imp (fun h e => ltA_ne h e) (folders_rise P)
theorem DL.crash {D : DD} {k : Nat} (h : DL D k) (hl : Srt D.lasting) (cs : List Int) : DL (crashF D cs (foldersF D.pend)) k := by
  have h1 := nms_le h hl cs _ (folders_nodup D.pend)
  have hn : (crashF D cs (foldersF D.pend)).names.length ≤ k := by
    have := fil_names D.files cs (nmsG D cs (foldersF D.pend)).1 (([], []), (foldersF D.pend).length) List.Pairwise.nil
    simp only [List.length_nil] at this
    show ((nmsG D cs (foldersF D.pend)).1.foldl (filO D.files cs) (([], []), (foldersF D.pend).length)).1.1.length ≤ k
    omega
  refine ⟨hn, by show (crashF D cs (foldersF D.pend)).names.length + 0 ≤ k; omega, ?_, fun x hx => ?_, Int.le_refl _, by show (0 : Int) ≤ (k : Int); omega, fun y hy => absurd hy (by show ¬ y ∈ ([] : List PnC); simp)⟩
  · have := fil_len D.files cs (nmsG D cs (foldersF D.pend)).1 (([], []), (foldersF D.pend).length)
    simp only [List.length_nil] at this
    show ((nmsG D cs (foldersF D.pend)).1.foldl (filO D.files cs) (([], []), (foldersF D.pend).length)).1.2.length ≤ k
    omega
  · rcases fil_dat _ _ _ _ x hx with hx | ⟨f, i, rfl⟩
    · exact absurd hx (by simp)
    · have hc := ct_ok h.x f
      have := rmL_le hc.2 cs i
      simp only
      omega
end Go.Proofs.YtegdadkejheagaaGreatDoor
