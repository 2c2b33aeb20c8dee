/-
  The plain mathematics of streams: bits and numbers.
-/
import Derived.WalkKit
import Derived.Test.YtjijkcmbbccfmaaDoorK
import Derived.Test.YtjijkcmbbccfmaaDoorQ
namespace Go.Proofs.YtjijkcmbbccfmaaDoor

/-- What a stream is refused with. -/
inductive Er
  | short
  | form
  | limit
def Er.v : Er → Int
  | .short => 5
  | .form => 4
  | .limit => 10
theorem Er.rng (e : Er) : 0 < e.v ∧ e.v < 11 := by cases e <;> decide

/-- An answer and how many bits have been taken, or what is wrong. -/
inductive Rs (α : Type)
  | ok (a : α) (t : Nat)
  | bad (e : Er)

def bitF (p : List Int) (i : Nat) : Int := p.getD (i / 8) 0 / 2 ^ (i % 8) % 2
theorem bitF_range (p : List Int) (i : Nat) : 0 ≤ bitF p i ∧ bitF p i ≤ 1 := by
  unfold bitF
  omega
/-- The number that n bits from t on have. -/
def valF (p : List Int) : Nat → Nat → Int
  | _, 0 => 0
  | t, n + 1 => bitF p t + 2 * valF p (t + 1) n
theorem valF_range (p : List Int) : ∀ (n t : Nat), 0 ≤ valF p t n ∧ valF p t n < 2 ^ n
  | 0, t => by simp [valF]
  | n + 1, t => by
    have h := valF_range p n (t + 1)
    have b := bitF_range p t
    rw [valF, Int.pow_succ]
    omega
theorem valF_add (p : List Int) (b : Nat) : ∀ (a t : Nat), valF p t (a + b) = valF p t a + 2 ^ a * valF p (t + a) b
  | 0, t => by simp [valF]
  | a + 1, t => by
    rw [show a + 1 + b = (a + b) + 1 from by omega, valF, valF, valF_add p b a (t + 1), show t + 1 + a = t + (a + 1) from by omega, Int.pow_succ, Int.mul_add, Int.add_assoc]
    congr 2
    rw [Int.mul_comm (2 ^ a) 2, Int.mul_assoc]
theorem valF_byte (p : List Int) (i : Nat) (h : 0 ≤ p.getD i 0 ∧ p.getD i 0 < 256) : valF p (8 * i) 8 = p.getD i 0 := by
  have e : ∀ k, k < 8 → bitF p (8 * i + k) = p.getD i 0 / 2 ^ k % 2 := by
    intro k hk
    unfold bitF
    rw [show (8 * i + k) / 8 = i from by omega, show (8 * i + k) % 8 = k from by omega]
  have e0 := e 0 (by omega)
  simp only [Nat.add_zero] at e0
  simp only [valF, Nat.add_assoc, e0, e 1 (by omega), e 2 (by omega), e 3 (by omega), e 4 (by omega), e 5 (by omega), e 6 (by omega), e 7 (by omega), Nat.reduceAdd]
  generalize p.getD i 0 = x at *
  omega
theorem valF_mod (p : List Int) (t n m : Nat) : valF p t (n + m) % 2 ^ n = valF p t n := by
  have h := valF_range p n t
  rw [valF_add, Int.add_mul_emod_self_left, Int.emod_eq_of_lt h.1 h.2]
theorem valF_div (p : List Int) (t n m : Nat) : valF p t (n + m) / 2 ^ n = valF p (t + n) m := by
  have h := valF_range p n t
  have hp : (0 : Int) < 2 ^ n := Int.pow_pos (by omega)
  rw [valF_add, Int.add_mul_ediv_left _ _ (by omega), Int.ediv_eq_zero_of_lt h.1 h.2, Int.zero_add]

/-- A number of n bits is taken. -/
def numF (p : List Int) (n t : Nat) : Rs Int := if t + n ≤ 8 * p.length then .ok (valF p t n) (t + n) else .bad .short

/-- Codes: for each length how many have it, and the symbols in the codes' order. -/
structure Cd where
  counts : List Int
  symbols : List Int

def symGo (p : List Int) (syms : List Int) : List Int → Int → Int → Nat → Rs Int
  | [], _, _, _ => .bad .form
  | c :: cs, past, at_, t =>
    match numF p 1 t with
    | .bad e => .bad e
    | .ok b t' => if 2 * past + b < c then .ok (syms.getD (at_ + (2 * past + b)).toNat 0) t' else symGo p syms cs (2 * past + b - c) (at_ + c) t'
def symF (p : List Int) (c : Cd) (t : Nat) : Rs Int := symGo p c.symbols c.counts.tail 0 0 t

/-- The places of n in a list, from a number on. -/
def idxF (n : Int) : List Int → Int → List Int
  | [], _ => []
  | x :: xs, i => if x = n then i :: idxF n xs (i + 1) else idxF n xs (i + 1)
theorem idxF_snoc (n x : Int) : ∀ (l : List Int) (i : Int), idxF n (l ++ [x]) i = idxF n l i ++ if x = n then [i + l.length] else []
  | [], i => by
    by_cases h : x = n <;> simp [idxF, h]
  | y :: l, i => by
    simp only [List.cons_append, idxF, idxF_snoc n x l (i + 1), List.length_cons]
    have e : i + 1 + (l.length : Int) = i + ((l.length + 1 : Nat) : Int) := by omega
    by_cases h : y = n
    · simp only [h, if_true, List.cons_append, e]
    · simp only [h, if_false, e]

/-- Without what is 0 at the end (the first one stays). -/
def trimR : List Int → List Int
  | x :: y :: ys => if x = 0 then trimR (y :: ys) else x :: y :: ys
  | l => l
def trimF (l : List Int) : List Int := (trimR l.reverse).reverse

/-- The symbols of the lengths 1 to n, in the codes' order; and how many have each. -/
def symsF (L : List Int) : Nat → List Int
  | 0 => []
  | n + 1 => symsF L n ++ idxF ((n : Int) + 1) L 0
def cntsF (L : List Int) : Nat → List Int
  | 0 => [0]
  | n + 1 => cntsF L n ++ [((idxF ((n : Int) + 1) L 0).length : Int)]
def mkCd (L : List Int) : Cd := ⟨trimF (cntsF L 15), symsF L 15⟩

def sumF : List Int → Nat → Int
  | [], _ => 0
  | c :: cs, i => c * 2 ^ (15 - i) + sumF cs (i + 1)
def rightF (c : Cd) : Bool := if c.symbols.length = 1 then decide (c.counts.length = 2) else decide (sumF c.counts 0 = 32768)

def fixedL : List Int := List.replicate 144 8 ++ List.replicate 112 9 ++ List.replicate 24 7 ++ List.replicate 8 8
def fixedD : List Int := List.replicate 32 5

def orderL : List Int := [16, 17, 18, 0, 8, 7, 9, 6, 10, 5, 11, 4, 12, 3, 13, 2, 14, 1, 15]
def lcGo (p : List Int) : List Int → List Int → Nat → Rs (List Int)
  | [], acc, t => .ok acc t
  | o :: os, acc, t =>
    match numF p 3 t with
    | .bad e => .bad e
    | .ok v t' => lcGo p os (acc.set o.toNat v) t'
/-- The codes by which lengths are told. -/
def lcF (p : List Int) (n t : Nat) : Rs Cd :=
  match lcGo p (orderL.take n) (List.replicate 19 0) t with
  | .bad e => .bad e
  | .ok L t' => if rightF (mkCd L) then .ok (mkCd L) t' else .bad .form

def timesF (p : List Int) (s : Int) (t : Nat) : Rs Int :=
  match numF p (if s = 17 then 3 else if s = 18 then 7 else 2) t with
  | .bad e => .bad e
  | .ok v t' => .ok ((if s = 18 then 11 else 3) + v) t'
def lensGo (p : List Int) (c : Cd) (count : Nat) : Nat → List Int → Nat → Rs (List Int)
  | 0, L, t => .ok L t
  | f + 1, L, t =>
    if L.length < count then
      match symF p c t with
      | .bad e => .bad e
      | .ok s t1 =>
        if s ≤ 15 then lensGo p c count f (L ++ [s]) t1
        else if s = 16 ∧ L = [] then .bad .form
        else match timesF p s t1 with
          | .bad e => .bad e
          | .ok n t2 => if (count : Int) < L.length + n then .bad .form else lensGo p c count f (L ++ List.replicate n.toNat (if s = 16 then L.getLastD 0 else 0)) t2
    else .ok L t
def lensF (p : List Int) (c : Cd) (count t : Nat) : Rs (List Int) := lensGo p c count count [] t

def countsF (p : List Int) (t : Nat) : Rs (Int × Int × Int) :=
  match numF p 5 t with
  | .bad e => .bad e
  | .ok a t1 => match numF p 5 t1 with
    | .bad e => .bad e
    | .ok b t2 => match numF p 4 t2 with
      | .bad e => .bad e
      | .ok c t3 => if 29 < a ∨ 29 < b then .bad .form else .ok (a, b, c) t3
def toldF (p : List Int) (t : Nat) : Rs (Cd × Cd) :=
  match countsF p t with
  | .bad e => .bad e
  | .ok (a, b, c) t3 => match lcF p (c + 4).toNat t3 with
    | .bad e => .bad e
    | .ok y t4 => match lensF p y (a + 257 + b + 1).toNat t4 with
      | .bad e => .bad e
      | .ok L t5 =>
        if L.getD 256 0 = 0 ∨ rightF (mkCd (L.take (a + 257).toNat)) = false then .bad .form
        else if rightF (mkCd (L.drop (a + 257).toNat)) = false ∧ (mkCd (L.drop (a + 257).toNat)).symbols ≠ [] then .bad .form
        else .ok (mkCd (L.take (a + 257).toNat), mkCd (L.drop (a + 257).toNat)) t5

def lengthF (p : List Int) (s : Int) (t : Nat) : Rs Int :=
  if 285 < s then .bad .form
  else if s = 285 then .ok 258 t
  else if s - 257 < 8 then .ok (3 + (s - 257)) t
  else match numF p ((s - 257) / 4 - 1).toNat t with
    | .bad e => .bad e
    | .ok v t' => .ok (3 + (4 + (s - 257) % 4) * 2 ^ ((s - 257) / 4 - 1).toNat + v) t'
def distF (p : List Int) (c : Cd) (t : Nat) : Rs Int :=
  match symF p c t with
  | .bad e => .bad e
  | .ok s t1 =>
    if 29 < s then .bad .form
    else if s < 4 then .ok (1 + s) t1
    else match numF p (s / 2 - 1).toNat t1 with
      | .bad e => .bad e
      | .ok v t2 => .ok (1 + (2 + s % 2) * 2 ^ (s / 2 - 1).toNat + v) t2
/-- n bytes, each the one d back. -/
def copyF (most d : Nat) : Nat → List Int → Option (List Int)
  | 0, out => some out
  | n + 1, out => if most ≤ out.length then none else copyF most d n (out ++ [out.getD (out.length - d) 0])
def matchF (p : List Int) (most : Nat) (c : Cd) (s : Int) (out : List Int) (t : Nat) : Rs (List Int) :=
  match lengthF p s t with
  | .bad e => .bad e
  | .ok n t1 => match distF p c t1 with
    | .bad e => .bad e
    | .ok d t2 => if (out.length : Int) < d then .bad .form else match copyF most d.toNat n.toNat out with
      | none => .bad .limit
      | some o => .ok o t2
/-- A block of symbols. -/
def blockF (p : List Int) (most : Nat) (c d : Cd) : Nat → List Int → Nat → Rs (List Int)
  | 0, _, _ => .bad .short
  | f + 1, out, t =>
    match symF p c t with
    | .bad e => .bad e
    | .ok s t1 =>
      if s = 256 then .ok out t1
      else if s < 256 then (if most ≤ out.length then .bad .limit else blockF p most c d f (out ++ [s]) t1)
      else match matchF p most d s out t1 with
        | .bad e => .bad e
        | .ok o t2 => blockF p most c d f o t2
def storedGo (p : List Int) (most : Nat) : Nat → List Int → Nat → Rs (List Int)
  | 0, out, t => .ok out t
  | n + 1, out, t =>
    match numF p 8 t with
    | .bad e => .bad e
    | .ok v t' => if most ≤ out.length then .bad .limit else storedGo p most n (out ++ [v]) t'
def storedF (p : List Int) (most : Nat) (out : List Int) (t : Nat) : Rs (List Int) :=
  match numF p 16 ((t + 7) / 8 * 8) with
  | .bad e => .bad e
  | .ok n t1 => match numF p 16 t1 with
    | .bad e => .bad e
    | .ok m t2 => if m = 65535 - n then storedGo p most n.toNat out t2 else .bad .form
def headF (p : List Int) (t : Nat) : Rs (Int × Int) :=
  match numF p 1 t with
  | .bad e => .bad e
  | .ok l t1 => match numF p 2 t1 with
    | .bad e => .bad e
    | .ok y t2 => .ok (l, y) t2
def wayF (p : List Int) (most : Nat) (y : Int) (out : List Int) (t : Nat) : Rs (List Int) :=
  if y = 0 then storedF p most out t
  else if y = 1 then blockF p most (mkCd fixedL) (mkCd fixedD) (8 * p.length - t + 1) out t
  else if y = 2 then match toldF p t with
    | .bad e => .bad e
    | .ok (c, d) t1 => blockF p most c d (8 * p.length - t1 + 1) out t1
  else .bad .form
def streamF (p : List Int) (most : Nat) : Nat → List Int → Nat → Rs (List Int)
  | 0, _, _ => .bad .short
  | f + 1, out, t =>
    match headF p t with
    | .bad e => .bad e
    | .ok (l, y) t1 => match wayF p most y out t1 with
      | .bad e => .bad e
      | .ok o t2 => if l = 0 then streamF p most f o t2 else .ok o t2
def inflF (p : List Int) (most : Nat) : Rs (List Int) := streamF p most (8 * p.length + 1) [] 0

open Go.RowKit

/-- The reader's block. -/
def RB (w : World) (rb : Nat) (inV : Value) (at_ b held : Int) (outV : Value) (most : Int) : Prop :=
  w.heap[rb]? = some (.cells #[inV, .int .i64 at_, .int .u32 b, .int .i64 held, outV, .int .i64 most] 41)
section
variable {w : World} {rb : Nat} {inV outV : Value} {at_ b held most : Int}
theorem RB.lt (h : RB w rb inV at_ b held outV most) : rb < w.heap.size := by
  rcases Nat.lt_or_ge rb w.heap.size with h' | h'
  · exact h'
  · unfold RB at h
    rw [Array.getElem?_eq_none h'] at h
    cases h
theorem RB.c0 (h : RB w rb inV at_ b held outV most) : w.cell? ⟨rb, 0, none⟩ = some inV := by unfold RB at h; simp [World.cell?, h]
theorem RB.c1 (h : RB w rb inV at_ b held outV most) : w.cell? ⟨rb, 1, none⟩ = some (.int .i64 at_) := by unfold RB at h; simp [World.cell?, h]
theorem RB.c2 (h : RB w rb inV at_ b held outV most) : w.cell? ⟨rb, 2, none⟩ = some (.int .u32 b) := by unfold RB at h; simp [World.cell?, h]
theorem RB.c3 (h : RB w rb inV at_ b held outV most) : w.cell? ⟨rb, 3, none⟩ = some (.int .i64 held) := by unfold RB at h; simp [World.cell?, h]
theorem RB.c4 (h : RB w rb inV at_ b held outV most) : w.cell? ⟨rb, 4, none⟩ = some outV := by unfold RB at h; simp [World.cell?, h]
theorem RB.c5 (h : RB w rb inV at_ b held outV most) : w.cell? ⟨rb, 5, none⟩ = some (.int .i64 most) := by unfold RB at h; simp [World.cell?, h]
theorem RB.fz (h : RB w rb inV at_ b held outV most) (i : Nat) : w.frozen? ⟨rb, i, none⟩ = false := by unfold RB at h; simp [World.frozen?, h]
theorem RB.s1 (h : RB w rb inV at_ b held outV most) (n : Int) : RB (w.setCell ⟨rb, 1, none⟩ (.int .i64 n)) rb inV n b held outV most := by
  unfold RB at h ⊢
  simp only [World.setCell, Array.getElem?_modify, h]
  simp
theorem RB.s2 (h : RB w rb inV at_ b held outV most) (n : Int) : RB (w.setCell ⟨rb, 2, none⟩ (.int .u32 n)) rb inV at_ n held outV most := by
  unfold RB at h ⊢
  simp only [World.setCell, Array.getElem?_modify, h]
  simp
theorem RB.s3 (h : RB w rb inV at_ b held outV most) (n : Int) : RB (w.setCell ⟨rb, 3, none⟩ (.int .i64 n)) rb inV at_ b n outV most := by
  unfold RB at h ⊢
  simp only [World.setCell, Array.getElem?_modify, h]
  simp
theorem RB.s4 (h : RB w rb inV at_ b held outV most) (n : Value) : RB (w.setCell ⟨rb, 4, none⟩ n) rb inV at_ b held n most := by
  unfold RB at h ⊢
  simp only [World.setCell, Array.getElem?_modify, h]
  simp
theorem RB.far {w' : World} (h : RB w rb inV at_ b held outV most) (hb : w'.heap[rb]? = w.heap[rb]?) : RB w' rb inV at_ b held outV most := by
  unfold RB at h ⊢
  rw [hb]
  exact h
end

/-- No block but these two has turned. -/
structure Fr (rb : Nat) (ob : Option Nat) (w w' : World) : Prop where
  os : w'.os = w.os
  tape : w'.tape = w.tape
  output : w'.output = w.output
  size : w.heap.size ≤ w'.heap.size
  block : ∀ k, k < w.heap.size → k ≠ rb → some k ≠ ob → w'.heap[k]? = w.heap[k]?
section
variable {rb : Nat} {ob : Option Nat} {w w1 w2 : World}
theorem Fr.refl (rb : Nat) (ob : Option Nat) (w : World) : Fr rb ob w w := ⟨rfl, rfl, rfl, Nat.le_refl _, fun _ _ _ _ => rfl⟩
theorem Fr.trans (h : Fr rb ob w w1) (k : Fr rb ob w1 w2) : Fr rb ob w w2 :=
  ⟨k.os.trans h.os, k.tape.trans h.tape, k.output.trans h.output, Nat.le_trans h.size k.size, fun i hi h1 h2 => (k.block i (Nat.lt_of_lt_of_le hi h.size) h1 h2).trans (h.block i hi h1 h2)⟩
theorem Fr.wide (h : Fr rb none w w1) : Fr rb ob w w1 := ⟨h.os, h.tape, h.output, h.size, fun k hk h1 _ => h.block k hk h1 (by simp)⟩
theorem Fr.set (h : Fr rb ob w w1) (i : Nat) (u : Value) : Fr rb ob w (w1.setCell ⟨rb, i, none⟩ u) :=
  h.trans ⟨rfl, rfl, rfl, by simp [World.setCell], fun k _ hk _ => Below.heap_setCell _ _ _ _ hk⟩
theorem Fr.drewN (h : Fr rb ob w w1) (n : Nat) : Fr rb ob w (w1.drewN n) := ⟨h.os, h.tape, h.output, h.size, h.block⟩
theorem Fr.alloc (h : Fr rb ob w w1) (o : Obj) : Fr rb ob w (w1.alloc o) :=
  h.trans ⟨rfl, rfl, rfl, by simp, fun k hk _ _ => Below.heap_alloc _ _ _ hk⟩
theorem Fr.below {W0 : World} {B : Nat} (h : Fr rb ob w w1) (hb : Below B W0 w) (hr : B ≤ rb) (ho : ∀ k, ob = some k → B ≤ k) (hB : B ≤ w.heap.size) : Below B W0 w1 :=
  hb.trans ⟨h.os, h.tape, h.output, h.size, fun k hk => h.block k (by omega) (by omega) (fun e => by have := ho k e.symm; omega)⟩
end

/-- The reader: t bits of p have been taken, out has been put out. -/
structure Rdr (W0 w : World) (rb : Nat) (ob : Option Nat) (inV : Value) (p : List Int) (most : Nat) (out : List Int) (t : Nat) : Prop where
  blk : ∃ (at_ held : Nat) (outV : Value), RB w rb inV at_ (valF p t held) held outV most ∧ 8 * at_ = t + held ∧ held < 8 ∧ at_ ≤ p.length ∧ Own .u8 5 w W0.heap.size outV out ∧ outV.ownBlock = ob
  bel : Below W0.heap.size W0 w
  hb : W0.heap.size ≤ rb
  ho : ob ≠ some rb
  rd : Rd .u8 anyB W0 inV p
  ap : AllB p
  ao : AllB out
  lp : p.length ≤ 70368744177664
  hm : most ≤ 1048576
  lo : out.length ≤ most
section
variable {W0 w : World} {rb : Nat} {ob : Option Nat} {inV : Value} {p out : List Int} {most t : Nat}
theorem Rdr.ob_ge (h : Rdr W0 w rb ob inV p most out t) : ∀ k, ob = some k → W0.heap.size ≤ k ∧ k < w.heap.size := by
  intro k hk
  obtain ⟨_, _, outV, _, _, _, _, own, hob⟩ := h.blk
  exact own.lt k (by rw [hob]; exact hk)
theorem Rdr.far {w' : World} (h : Rdr W0 w rb ob inV p most out t) (hf : Below w.heap.size w w') : Rdr W0 w' rb ob inV p most out t := by
  obtain ⟨at_, held, outV, hB, h1, h2, h3, own, hob⟩ := h.blk
  exact ⟨⟨at_, held, outV, hB.far (hf.block _ hB.lt), h1, h2, h3, own.later hf (Nat.le_refl _), hob⟩, h.bel.trans (hf.mono h.bel.size), h.hb, h.ho, h.rd, h.ap, h.ao, h.lp, h.hm, h.lo⟩
end

/-- What a call of the reader leaves: the value and the reader behind, or what is wrong. -/
def After {α : Type} (W0 w w' : World) (rb : Nat) (ob : Option Nat) (inV : Value) (p : List Int) (most : Nat) (out : List Int) (r : Rs α) (e : Ending) (enc : α → Int → Value) (zero : Int → Value) : Prop :=
  match r with
  | .ok a t' => e = .returned (enc a 0) ∧ Rdr W0 w' rb ob inV p most out t' ∧ Fr rb ob w w'
  | .bad er => e = .returned (zero er.v) ∧ Below W0.heap.size W0 w' ∧ Fr rb ob w w'
def encI (a e : Int) : Value := .tuple #[.int .i64 a, .int .i64 e]
def zeroI (e : Int) : Value := .tuple #[.int .i64 0, .int .i64 e]

open Go.RowKit

theorem Rdr.cell {W0 w wr : World} {rb : Nat} {ob : Option Nat} {inV : Value} {p out : List Int} {most t : Nat} (h : Rdr W0 w rb ob inV p most out t) (hf : Fr rb none w wr) {ib io : Nat} (hib : ib < W0.heap.size) {i : Nat} {v : Value} (hc : W0.cell? ⟨ib, io + i, none⟩ = some v) : wr.cell? ⟨ib, io + i, none⟩ = some v := by
  have hb := h.hb
  have hz := h.bel.size
  rw [World.cell?_of_block (w := w) (a := ⟨ib, io + i, none⟩) (hf.block ib (by omega) (by omega) (by simp)), h.bel.cell (p := ⟨ib, io + i, none⟩) hib]
  exact hc

theorem or_join (V y : Int) (held : Nat) (h0 : 0 ≤ V) (h1 : V < 2 ^ held) (hh : held < 16) (hy0 : 0 ≤ y) (hy1 : y < 256) : bits .or .u32 V (y * 2 ^ held % 4294967296) = V + y * 2 ^ held := by
  have hp : (2 : Int) ^ held ≤ 2 ^ 15 := by
    have : (2 : Nat) ^ held ≤ 2 ^ 15 := Nat.pow_le_pow_right (by omega) (by omega)
    exact_mod_cast this
  have hp0 : (0 : Int) < 2 ^ held := Int.pow_pos (by omega)
  have hm : y * 2 ^ held ≤ 255 * 2 ^ 15 := Int.mul_le_mul (by omega) hp (by omega) (by omega)
  have hm0 : 0 ≤ y * 2 ^ held := Int.mul_nonneg hy0 (by omega)
  have hq : ((2 : Int) ^ held) = ((2 ^ held : Nat) : Int) := by simp
  have hz : (y * 2 ^ held).toNat % 2 ^ held = 0 := by
    obtain ⟨z, rfl⟩ := Int.eq_ofNat_of_zero_le hy0
    rw [hq, ← Int.natCast_mul, Int.toNat_natCast]
    exact Nat.mul_mod_left _ _
  have hl : V.toNat < 2 ^ held := by
    have : V < ((2 ^ held : Nat) : Int) := by rw [← hq]; exact h1
    omega
  simp only [Int.reducePow] at hp hm
  rw [Int.emod_eq_of_lt hm0 (by omega), u32_or V _ h0 (by omega) hm0 (by omega), Nat.or_comm, nat_join held _ _ hz hl]
  omega

theorem and_mask (V : Int) (n : Nat) (h0 : 0 ≤ V) (h1 : V < 16777216) (hn : n ≤ 16) : bits .and .u32 V ((2 ^ n - 1) % 4294967296) = V % 2 ^ n := by
  have hp : (2 : Int) ^ n ≤ 2 ^ 16 := by
    have : (2 : Nat) ^ n ≤ 2 ^ 16 := Nat.pow_le_pow_right (by omega) (by omega)
    exact_mod_cast this
  have hp0 : (0 : Int) < 2 ^ n := Int.pow_pos (by omega)
  have hq : ((2 : Int) ^ n) = ((2 ^ n : Nat) : Int) := by simp
  rw [Int.emod_eq_of_lt (by omega) (by omega), u32_and V _ h0 (by omega) (by omega) (by omega)]
  have e : ((2 : Int) ^ n - 1).toNat = 2 ^ n - 1 := by rw [hq]; omega
  rw [e, Nat.and_two_pow_sub_one_eq_mod]
  obtain ⟨x, rfl⟩ := Int.eq_ofNat_of_zero_le h0
  rw [hq, Int.toNat_natCast]
  simp

set_option maxHeartbeats 1000000 in
theorem number_any {W0 w : World} {rb : Nat} {ob : Option Nat} {inV : Value} {p out : List Int} {most t : Nat} (n : Nat) (hn : n ≤ 16) (h : Rdr W0 w rb ob inV p most out t) :
    Calls Tryd.prog 68 #[.pointer (some ⟨rb, 0, none⟩), .int .i64 n] w fun e w' => After W0 w w' rb ob inV p most out (numF p n t) e encI zeroI := by
  obtain ⟨at0, held0, outV, hB, ha, hh, hl, own, hob⟩ := h.blk
  obtain ⟨ia, ic, rfl, hnil, hlc, hcm⟩ := h.rd.form
  have hlp := h.lp
  have KH := Kept.mk h
  have KO := Kept.mk own
  have KB := Kept.mk hob
  clear h own hnil hcm hob
  go_enter Tryd.func68, Tryd.ntmps68
  go_wp2
  go_loopw [4, 5] (fun _ _ wr => ∃ at_ held : Nat, RB wr rb (.slice ia p.length ic) at_ (valF p t held) held outV most ∧ 8 * at_ = t + held ∧ at_ ≤ p.length ∧ held < n + 8 ∧ Fr rb none w wr) (fun _ _ wr => (24 - intOf ((wr.cell? ⟨rb, 3, none⟩).getD (.int .i64 0))).toNat)
  case atStart => exact ⟨at0, held0, hB, ha, hl, by omega, Fr.refl _ _ _⟩
  case round =>
    obtain ⟨at_, held, hR, hat, hle, hlt24, hfr⟩ := hrel
    have c0 := hR.c0
    have c1 := hR.c1
    have c2 := hR.c2
    have c3 := hR.c3
    have f1 := hR.fz 1
    have f2 := hR.fz 2
    have f3 := hR.fz 3
    have KR := Kept.mk hR
    have KF := Kept.mk hfr
    clear hR hfr hB
    by_cases hlt : held < n
    · by_cases hend : at_ = p.length
      · have KA := Kept.mk hend
        have heq : (at_ : Int) = (p.length : Int) := by omega
        clear hend
        go_wp2
        go_quiet (fail)
        go_wp2
        go_ret2
        have hend := KA.out
        unfold After
        unfold numF
        rw [if_neg (by omega)]
        exact ⟨rfl, (KF.out.drewN _).below KH.out.bel KH.out.hb (by simp) KH.out.bel.size, (KF.out.drewN _).wide⟩
      · have hl2 : at_ < p.length := by omega
        obtain ⟨ib, io, ic2, he, hib, -, -, -, hcells⟩ := KH.out.rd.open (by omega)
        simp only [Value.slice.injEq, true_and] at he
        obtain ⟨rfl, rfl⟩ := he
        have ci := KH.out.cell KF.out hib (hcells at_ hl2)
        have hne : ¬ (at_ : Int) = (p.length : Int) := by omega
        have hi2 : (at_ : Int) < (p.length : Int) := by omega
        have hby := KH.out.ap.getD (by omega) at_
        have hvr := valF_range p held t
        have HV : Kept (valF p t (held + 8) = valF p t held + p.getD at_ 0 * 2 ^ held) := ⟨by rw [valF_add, ← hat, valF_byte p at_ hby, Int.mul_comm]⟩
        clear hcells hend
        generalize valF p t held = V at *
        generalize p.getD at_ 0 = y at *
        go_wp2
        go_quiet (fail)
        go_wp2
        refine wp_region_last _ 23 (by kernel_rfl) (by kernel_rfl) rfl rfl ?_
        simp only [List.take_succ_cons, List.take_zero]
        repeat (go_big_quiet_step (fail))
        refine wpQuiet_nil ?_
        intro m
        go_wp2
        go_roundw
        case rel =>
          rw [or_join V y held hvr.1 hvr.2 (by omega) hby.1 hby.2, ← HV.out]
          refine ⟨at_ + 1, held + 8, ?_, by omega, by omega, by omega, ((((KF.out.drewN _).set _ _).set _ _).set _ _)⟩
          have hR : RB (wr.drewN (nq + m)) rb (.slice (some ⟨ib, io, none⟩) p.length ic) at_ V held outV most := KR.out
          exact ((hR.s2 _).s1 ((at_ + 1 : Nat) : Int)).s3 ((held + 8 : Nat) : Int)
        case measure =>
          have hR : RB (wr.drewN (nq + m)) rb (.slice (some ⟨ib, io, none⟩) p.length ic) at_ V held outV most := KR.out
          rw [(((hR.s2 _).s1 _).s3 _).c3, c3]
          simp [intOf]
          omega
    · go_wp2
      go_quiet (fail)
      go_wp2
      go_ret2
      unfold After
      unfold numF
      rw [if_pos (by omega)]
      refine ⟨?_, ⟨⟨at_, held - n, outV, ?_, by omega, by omega, hle, ?_, KB.out⟩, ?_, KH.out.hb, KH.out.ho, KH.out.rd, KH.out.ap, KH.out.ao, KH.out.lp, KH.out.hm, KH.out.lo⟩, ?_⟩
      · have e1 : bits .and .u32 (valF p t held) ((2 ^ n - 1) % 4294967296) = valF p t n := by
          have hvr := valF_range p held t
          have hp : (2 : Int) ^ held ≤ 2 ^ 24 := by
            have : (2 : Nat) ^ held ≤ 2 ^ 24 := Nat.pow_le_pow_right (by omega) (by omega)
            exact_mod_cast this
          rw [and_mask _ n hvr.1 (by omega) (by omega)]
          obtain ⟨q, rfl⟩ : ∃ q, held = n + q := ⟨held - n, by omega⟩
          exact valF_mod p t n q
        have e2 : wrap64 (valF p t n) = valF p t n := by
          have hvr := valF_range p n t
          have hp : (2 : Int) ^ n ≤ 2 ^ 16 := by
            have : (2 : Nat) ^ n ≤ 2 ^ 16 := Nat.pow_le_pow_right (by omega) (by omega)
            exact_mod_cast this
          unfold wrap64
          omega
        simp only [e1, e2]
        rfl
      · obtain ⟨q, rfl⟩ : ∃ q, held = n + q := ⟨held - n, by omega⟩
        have e3 : ((n + q : Nat) : Int) - (n : Int) = ((n + q - n : Nat) : Int) := by omega
        rw [valF_div p t n q, e3, show n + q - n = q from by omega]
        have hR : RB (wr.drewN nq) rb (.slice ia p.length ic) at_ (valF p t (n + q)) ((n + q : Nat) : Int) outV most := KR.out
        exact (hR.s2 _).s3 _
      · refine KO.out.far fun g hg => (((KF.out.drewN nq).set 2 _).set 3 _).block g (KO.out.lt g hg).2 (fun e => ?_) (by simp)
        exact KH.out.ho (by rw [← e, ← KB.out]; exact hg)
      · exact (((KF.out.drewN nq).set 2 _).set 3 _).below KH.out.bel KH.out.hb (by simp) KH.out.bel.size
      · exact (((KF.out.drewN nq).set 2 _).set 3 _).wide

open Go.RowKit

/-- What calls that put out leave of memory: the reader's block and that of what has been put out may have turned; the latter may be a new one. -/
structure Mv (rb : Nat) (ob ob' : Option Nat) (w w' : World) : Prop where
  fr : Fr rb ob w w'
  at_ : ob' = ob ∨ ∃ k, ob' = some k ∧ w.heap.size ≤ k
theorem Mv.refl (rb : Nat) (ob : Option Nat) (w : World) : Mv rb ob ob w w := ⟨Fr.refl _ _ _, Or.inl rfl⟩
theorem Fr.mv {rb : Nat} {ob : Option Nat} {w w' : World} (h : Fr rb ob w w') : Mv rb ob ob w w' := ⟨h, Or.inl rfl⟩
theorem Mv.trans {rb : Nat} {ob ob1 ob2 : Option Nat} {w w1 w2 : World} (h : Mv rb ob ob1 w w1) (k : Mv rb ob1 ob2 w1 w2) : Mv rb ob ob2 w w2 := by
  have hz := h.fr.size
  refine ⟨⟨k.fr.os.trans h.fr.os, k.fr.tape.trans h.fr.tape, k.fr.output.trans h.fr.output, Nat.le_trans h.fr.size k.fr.size, fun i hi h1 h2 => ?_⟩, ?_⟩
  · refine (k.fr.block i (by omega) h1 ?_).trans (h.fr.block i hi h1 h2)
    rcases h.at_ with e | ⟨g, e, hg⟩
    · rw [e]; exact h2
    · rw [e]; intro e'; simp at e'; omega
  · rcases k.at_ with e | ⟨g, e, hg⟩
    · rw [e]; exact h.at_
    · exact Or.inr ⟨g, e, by omega⟩

def AfterO (W0 w w' : World) (rb : Nat) (ob : Option Nat) (inV : Value) (p : List Int) (most : Nat) (r : Rs (List Int)) (e : Ending) : Prop :=
  match r with
  | .ok out' t' => e = .returned (.int .i64 0) ∧ ∃ ob', Rdr W0 w' rb ob' inV p most out' t' ∧ Mv rb ob ob' w w'
  | .bad er => e = .returned (.int .i64 er.v) ∧ Below W0.heap.size W0 w'
def putF (most : Nat) (b : Int) (out : List Int) (t : Nat) : Rs (List Int) := if most ≤ out.length then .bad .limit else .ok (out ++ [b]) t

set_option maxHeartbeats 1000000 in
set_option maxRecDepth 100000 in
theorem put_any {W0 w : World} {rb : Nat} {ob : Option Nat} {inV : Value} {p out : List Int} {most t : Nat} (b : Int) (hb0 : 0 ≤ b) (hb1 : b < 256) (h : Rdr W0 w rb ob inV p most out t) :
    Calls Tryd.prog 51 #[.pointer (some ⟨rb, 0, none⟩), .int .u8 b] w fun e w' => AfterO W0 w w' rb ob inV p most (putF most b out t) e := by
  obtain ⟨i0, z0, hi, hz, hs, hb, hc⟩ := info8
  obtain ⟨at0, held0, outV, hB, ha, hh, hl, own, hob⟩ := h.blk
  obtain ⟨oa, oc, rfl, -, hlc, hcm⟩ := own.rd.form
  have c4 := hB.c4
  have c5 := hB.c5
  have f4 := hB.fz 4
  have hm := h.hm
  have hlo := h.lo
  have hlt := hB.lt
  have hrb := h.hb
  have hwz := h.bel.size
  have KH := Kept.mk h
  have KO := Kept.mk own
  have KB := Kept.mk hob
  have KR := Kept.mk hB
  clear h own hob hB hcm
  by_cases hfull : most ≤ out.length
  · have hge : (most : Int) ≤ (out.length : Int) := by omega
    go_enter Tryd.func51, Tryd.ntmps51
    go_wp2
    go_quiet (fail)
    go_wp2
    go_ret
    unfold AfterO
    unfold putF
    rw [if_pos hfull]
    exact ⟨rfl, below_drewN KH.out.bel _⟩
  · have hge : ¬ (most : Int) ≤ (out.length : Int) := by omega
    go_enter Tryd.func51, Tryd.ntmps51
    go_wp2
    go_quiet (fail)
    have hrd := Kept.mk (Rd.one .u8 (w.drewN nq) b 5)
    have how : Kept (Own .u8 5 ((w.drewN nq).alloc (.cells #[.int .u8 b] 5)) W0.heap.size (.slice oa out.length oc) out) := ⟨Own.alloc (w := w.drewN nq) KO.out _⟩
    have hgo : ∀ (w1 : World), ((w.drewN nq).alloc (.cells #[.int .u8 b] 5)).grownBy w1 (Value.slice oa out.length oc).ownBlock → RB w1 rb inV at0 (valF p t held0) held0 (.slice oa out.length oc) most ∧ Fr rb ob w w1 := by
      intro w1 hg
      constructor
      · refine KR.out.far ?_
        rw [hg.block rb (by simp; omega) (fun e => KH.out.ho (by rw [← KB.out, ← e]))]
        exact Below.heap_alloc (w.drewN nq) _ rb hlt
      · refine (((Fr.refl rb ob w).drewN nq).alloc (.cells #[.int .u8 b] 5)).trans ⟨hg.os, hg.tape, hg.output, hg.size, fun k hk _ h2 => hg.block k hk (by rw [KB.out]; exact h2)⟩
    have KG := Kept.mk hgo
    clear hgo
    go_wp2_with (at_builtin; refine wpList_append_rd _ rfl _ _ 22 rfl .u8 anyB 1 W0.heap.size 5 i0 z0 Tryd.underlying22 hi hz hs hb hc (by omega) (.slice oa out.length oc) out rfl how.out _ [b] rfl hrd.out (by simp; omega) (by simp; omega) ?_; intro v' w1 hown hgrow hat; obtain ⟨na, nc, rfl, -, hl2, hcm2⟩ := hown.rd.form; obtain ⟨hR1, hF1⟩ := KG.out w1 hgrow; have c41 := hR1.c4; have f41 := hR1.fz 4; have KR1 := Kept.mk hR1; have KF1 := Kept.mk hF1; have KO1 := Kept.mk hown; have KA := Kept.mk hat; clear hR1 hF1 hown hgrow hat hl2 hcm2)
    go_ret
    simp only [List.length_append, List.length_singleton] at KA KO1
    unfold AfterO
    unfold putF
    rw [if_neg hfull]
    have ho2 : (Value.slice na (out.length + 1) nc).ownBlock ≠ some rb := by
      rcases KA.out with e | e
      · rw [e, KB.out]; exact KH.out.ho
      · rw [e]; simp; omega
    refine ⟨rfl, (Value.slice na (out.length + 1) nc).ownBlock, ⟨⟨at0, held0, .slice na (out.length + 1) nc, KR1.out.s4 _, ha, hh, hl, ?_, rfl⟩, ?_, KH.out.hb, ho2, KH.out.rd, KH.out.ap, KH.out.ao.append (AllIn.one hb0 hb1), KH.out.lp, KH.out.hm, by simp; omega⟩, (KF1.out.set 4 _), ?_⟩
    · exact KO1.out.far fun g hg => Below.heap_setCell _ _ _ _ (fun e => ho2 (by rw [hg, e]))
    · exact (KF1.out.set 4 _).below KH.out.bel KH.out.hb (fun k hk => (KH.out.ob_ge k hk).1) KH.out.bel.size
    · rcases KA.out with e | e
      · exact Or.inl (by rw [e, KB.out])
      · exact Or.inr ⟨_, e, by simp⟩
end Go.Proofs.YtjijkcmbbccfmaaDoor
