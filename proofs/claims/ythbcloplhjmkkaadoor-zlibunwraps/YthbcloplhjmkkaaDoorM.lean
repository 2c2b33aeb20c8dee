/-
  The plain mathematics of streams: bits and numbers.
-/
import Derived.WalkKit
namespace Go.Proofs.YthbcloplhjmkkaaDoor

/-- What a stream is refused with. -/
inductive Er
  | short
  | form
  | limit
def Er.v : Er → Int
  | .short => 5
  | .form => 4
  | .limit => 10
theorem Er.rng (e : Er) : 0 < e.v ∧ e.v < 11 := by cases e <;> decide

/-- An answer and how many bits have been taken, or what is wrong. -/
inductive Rs (α : Type)
  | ok (a : α) (t : Nat)
  | bad (e : Er)

def bitF (p : List Int) (i : Nat) : Int := p.getD (i / 8) 0 / 2 ^ (i % 8) % 2
theorem bitF_range (p : List Int) (i : Nat) : 0 ≤ bitF p i ∧ bitF p i ≤ 1 := by
  unfold bitF
  omega
/-- The number that n bits from t on have. -/
def valF (p : List Int) : Nat → Nat → Int
  | _, 0 => 0
  | t, n + 1 => bitF p t + 2 * valF p (t + 1) n
theorem valF_range (p : List Int) : ∀ (n t : Nat), 0 ≤ valF p t n ∧ valF p t n < 2 ^ n
  | 0, t => by simp [valF]
  | n + 1, t => by
    have h := valF_range p n (t + 1)
    have b := bitF_range p t
    rw [valF, Int.pow_succ]
    omega
theorem valF_add (p : List Int) (b : Nat) : ∀ (a t : Nat), valF p t (a + b) = valF p t a + 2 ^ a * valF p (t + a) b
  | 0, t => by simp [valF]
  | a + 1, t => by
    rw [show a + 1 + b = (a + b) + 1 from by omega, valF, valF, valF_add p b a (t + 1), show t + 1 + a = t + (a + 1) from by omega, Int.pow_succ, Int.mul_add, Int.add_assoc]
    congr 2
    rw [Int.mul_comm (2 ^ a) 2, Int.mul_assoc]
theorem valF_byte (p : List Int) (i : Nat) (h : 0 ≤ p.getD i 0 ∧ p.getD i 0 < 256) : valF p (8 * i) 8 = p.getD i 0 := by
  have e : ∀ k, k < 8 → bitF p (8 * i + k) = p.getD i 0 / 2 ^ k % 2 := by
    intro k hk
    unfold bitF
    rw [show (8 * i + k) / 8 = i from by omega, show (8 * i + k) % 8 = k from by omega]
  have e0 := e 0 (by omega)
  simp only [Nat.add_zero] at e0
  simp only [valF, Nat.add_assoc, e0, e 1 (by omega), e 2 (by omega), e 3 (by omega), e 4 (by omega), e 5 (by omega), e 6 (by omega), e 7 (by omega), Nat.reduceAdd]
  generalize p.getD i 0 = x at *
  omega
theorem valF_mod (p : List Int) (t n m : Nat) : valF p t (n + m) % 2 ^ n = valF p t n := by
  have h := valF_range p n t
  rw [valF_add, Int.add_mul_emod_self_left, Int.emod_eq_of_lt h.1 h.2]
theorem valF_div (p : List Int) (t n m : Nat) : valF p t (n + m) / 2 ^ n = valF p (t + n) m := by
  have h := valF_range p n t
  have hp : (0 : Int) < 2 ^ n := Int.pow_pos (by omega)
  rw [valF_add, Int.add_mul_ediv_left _ _ (by omega), Int.ediv_eq_zero_of_lt h.1 h.2, Int.zero_add]

/-- A number of n bits is taken. -/
def numF (p : List Int) (n t : Nat) : Rs Int := if t + n ≤ 8 * p.length then .ok (valF p t n) (t + n) else .bad .short

/-- Codes: for each length how many have it, and the symbols in the codes' order. -/
structure Cd where
  counts : List Int
  symbols : List Int

def symGo (p : List Int) (syms : List Int) : List Int → Int → Int → Nat → Rs Int
  | [], _, _, _ => .bad .form
  | c :: cs, past, at_, t =>
    match numF p 1 t with
    | .bad e => .bad e
    | .ok b t' => if 2 * past + b < c then .ok (syms.getD (at_ + (2 * past + b)).toNat 0) t' else symGo p syms cs (2 * past + b - c) (at_ + c) t'
def symF (p : List Int) (c : Cd) (t : Nat) : Rs Int := symGo p c.symbols c.counts.tail 0 0 t

/-- The places of n in a list, from a number on. -/
def idxF (n : Int) : List Int → Int → List Int
  | [], _ => []
  | x :: xs, i => if x = n then i :: idxF n xs (i + 1) else idxF n xs (i + 1)
theorem idxF_snoc (n x : Int) : ∀ (l : List Int) (i : Int), idxF n (l ++ [x]) i = idxF n l i ++ if x = n then [i + l.length] else []
  | [], i => by
    by_cases h : x = n <;> simp [idxF, h]
  | y :: l, i => by
    simp only [List.cons_append, idxF, idxF_snoc n x l (i + 1), List.length_cons]
    have e : i + 1 + (l.length : Int) = i + ((l.length + 1 : Nat) : Int) := by omega
    by_cases h : y = n
    · simp only [h, if_true, List.cons_append, e]
    · simp only [h, if_false, e]

/-- Without what is 0 at the end (the first one stays). -/
def trimR : List Int → List Int
  | x :: y :: ys => if x = 0 then trimR (y :: ys) else x :: y :: ys
  | l => l
def trimF (l : List Int) : List Int := (trimR l.reverse).reverse

/-- The symbols of the lengths 1 to n, in the codes' order; and how many have each. -/
def symsF (L : List Int) : Nat → List Int
  | 0 => []
  | n + 1 => symsF L n ++ idxF ((n : Int) + 1) L 0
def cntsF (L : List Int) : Nat → List Int
  | 0 => [0]
  | n + 1 => cntsF L n ++ [((idxF ((n : Int) + 1) L 0).length : Int)]
def mkCd (L : List Int) : Cd := ⟨trimF (cntsF L 15), symsF L 15⟩

def sumF : List Int → Nat → Int
  | [], _ => 0
  | c :: cs, i => c * 2 ^ (15 - i) + sumF cs (i + 1)
def rightF (c : Cd) : Bool := if c.symbols.length = 1 then decide (c.counts.length = 2) else decide (sumF c.counts 0 = 32768)

def fixedL : List Int := List.replicate 144 8 ++ List.replicate 112 9 ++ List.replicate 24 7 ++ List.replicate 8 8
def fixedD : List Int := List.replicate 32 5

def orderL : List Int := [16, 17, 18, 0, 8, 7, 9, 6, 10, 5, 11, 4, 12, 3, 13, 2, 14, 1, 15]
def lcGo (p : List Int) : List Int → List Int → Nat → Rs (List Int)
  | [], acc, t => .ok acc t
  | o :: os, acc, t =>
    match numF p 3 t with
    | .bad e => .bad e
    | .ok v t' => lcGo p os (acc.set o.toNat v) t'
/-- The codes by which lengths are told. -/
def lcF (p : List Int) (n t : Nat) : Rs Cd :=
  match lcGo p (orderL.take n) (List.replicate 19 0) t with
  | .bad e => .bad e
  | .ok L t' => if rightF (mkCd L) then .ok (mkCd L) t' else .bad .form

def timesF (p : List Int) (s : Int) (t : Nat) : Rs Int :=
  match numF p (if s = 17 then 3 else if s = 18 then 7 else 2) t with
  | .bad e => .bad e
  | .ok v t' => .ok ((if s = 18 then 11 else 3) + v) t'
def lensGo (p : List Int) (c : Cd) (count : Nat) : Nat → List Int → Nat → Rs (List Int)
  | 0, L, t => .ok L t
  | f + 1, L, t =>
    if L.length < count then
      match symF p c t with
      | .bad e => .bad e
      | .ok s t1 =>
        if s ≤ 15 then lensGo p c count f (L ++ [s]) t1
        else if s = 16 ∧ L = [] then .bad .form
        else match timesF p s t1 with
          | .bad e => .bad e
          | .ok n t2 => if (count : Int) < L.length + n then .bad .form else lensGo p c count f (L ++ List.replicate n.toNat (if s = 16 then L.getLastD 0 else 0)) t2
    else .ok L t
def lensF (p : List Int) (c : Cd) (count t : Nat) : Rs (List Int) := lensGo p c count count [] t

def countsF (p : List Int) (t : Nat) : Rs (Int × Int × Int) :=
  match numF p 5 t with
  | .bad e => .bad e
  | .ok a t1 => match numF p 5 t1 with
    | .bad e => .bad e
    | .ok b t2 => match numF p 4 t2 with
      | .bad e => .bad e
      | .ok c t3 => if 29 < a ∨ 29 < b then .bad .form else .ok (a, b, c) t3
def toldF (p : List Int) (t : Nat) : Rs (Cd × Cd) :=
  match countsF p t with
  | .bad e => .bad e
  | .ok (a, b, c) t3 => match lcF p (c + 4).toNat t3 with
    | .bad e => .bad e
    | .ok y t4 => match lensF p y (a + 257 + b + 1).toNat t4 with
      | .bad e => .bad e
      | .ok L t5 =>
        if L.getD 256 0 = 0 ∨ rightF (mkCd (L.take (a + 257).toNat)) = false then .bad .form
        else if rightF (mkCd (L.drop (a + 257).toNat)) = false ∧ (mkCd (L.drop (a + 257).toNat)).symbols ≠ [] then .bad .form
        else .ok (mkCd (L.take (a + 257).toNat), mkCd (L.drop (a + 257).toNat)) t5

def lengthF (p : List Int) (s : Int) (t : Nat) : Rs Int :=
  if 285 < s then .bad .form
  else if s = 285 then .ok 258 t
  else if s - 257 < 8 then .ok (3 + (s - 257)) t
  else match numF p ((s - 257) / 4 - 1).toNat t with
    | .bad e => .bad e
    | .ok v t' => .ok (3 + (4 + (s - 257) % 4) * 2 ^ ((s - 257) / 4 - 1).toNat + v) t'
def distF (p : List Int) (c : Cd) (t : Nat) : Rs Int :=
  match symF p c t with
  | .bad e => .bad e
  | .ok s t1 =>
    if 29 < s then .bad .form
    else if s < 4 then .ok (1 + s) t1
    else match numF p (s / 2 - 1).toNat t1 with
      | .bad e => .bad e
      | .ok v t2 => .ok (1 + (2 + s % 2) * 2 ^ (s / 2 - 1).toNat + v) t2
/-- n bytes, each the one d back. -/
def copyF (most d : Nat) : Nat → List Int → Option (List Int)
  | 0, out => some out
  | n + 1, out => if most ≤ out.length then none else copyF most d n (out ++ [out.getD (out.length - d) 0])
def matchF (p : List Int) (most : Nat) (c : Cd) (s : Int) (out : List Int) (t : Nat) : Rs (List Int) :=
  match lengthF p s t with
  | .bad e => .bad e
  | .ok n t1 => match distF p c t1 with
    | .bad e => .bad e
    | .ok d t2 => if (out.length : Int) < d then .bad .form else match copyF most d.toNat n.toNat out with
      | none => .bad .limit
      | some o => .ok o t2
/-- A block of symbols. -/
def blockF (p : List Int) (most : Nat) (c d : Cd) : Nat → List Int → Nat → Rs (List Int)
  | 0, _, _ => .bad .short
  | f + 1, out, t =>
    match symF p c t with
    | .bad e => .bad e
    | .ok s t1 =>
      if s = 256 then .ok out t1
      else if s < 256 then (if most ≤ out.length then .bad .limit else blockF p most c d f (out ++ [s]) t1)
      else match matchF p most d s out t1 with
        | .bad e => .bad e
        | .ok o t2 => blockF p most c d f o t2
def storedGo (p : List Int) (most : Nat) : Nat → List Int → Nat → Rs (List Int)
  | 0, out, t => .ok out t
  | n + 1, out, t =>
    match numF p 8 t with
    | .bad e => .bad e
    | .ok v t' => if most ≤ out.length then .bad .limit else storedGo p most n (out ++ [v]) t'
def storedF (p : List Int) (most : Nat) (out : List Int) (t : Nat) : Rs (List Int) :=
  match numF p 16 ((t + 7) / 8 * 8) with
  | .bad e => .bad e
  | .ok n t1 => match numF p 16 t1 with
    | .bad e => .bad e
    | .ok m t2 => if m = 65535 - n then storedGo p most n.toNat out t2 else .bad .form
def headF (p : List Int) (t : Nat) : Rs (Int × Int) :=
  match numF p 1 t with
  | .bad e => .bad e
  | .ok l t1 => match numF p 2 t1 with
    | .bad e => .bad e
    | .ok y t2 => .ok (l, y) t2
def wayF (p : List Int) (most : Nat) (y : Int) (out : List Int) (t : Nat) : Rs (List Int) :=
  if y = 0 then storedF p most out t
  else if y = 1 then blockF p most (mkCd fixedL) (mkCd fixedD) (8 * p.length - t + 1) out t
  else if y = 2 then match toldF p t with
    | .bad e => .bad e
    | .ok (c, d) t1 => blockF p most c d (8 * p.length - t1 + 1) out t1
  else .bad .form
def streamF (p : List Int) (most : Nat) : Nat → List Int → Nat → Rs (List Int)
  | 0, _, _ => .bad .short
  | f + 1, out, t =>
    match headF p t with
    | .bad e => .bad e
    | .ok (l, y) t1 => match wayF p most y out t1 with
      | .bad e => .bad e
      | .ok o t2 => if l = 0 then streamF p most f o t2 else .ok o t2
def inflF (p : List Int) (most : Nat) : Rs (List Int) := streamF p most (8 * p.length + 1) [] 0
end Go.Proofs.YthbcloplhjmkkaaDoor
