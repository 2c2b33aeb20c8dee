/-
  The plain mathematics of written streams: bits, matches.
-/
import Derived.WalkKit
import Derived.Test.YtjijkcmbbccfmaaDoorK
import Derived.Test.YtjijkcmbbccfmaaDoorR8
import Derived.Deep.RegionHeld3
import Derived.Deep.RegionLaw
import Derived.Deep.Cut
import Derived.Test.YtjijkcmbbccfmaaDoorQ
import Derived.Laws.BitsAllLaws
namespace Go.Proofs.YtjijkcmbbccfmaaDoor

/-- The n lowest bits of v, the lowest first. -/
def bitsL (v : Int) : Nat → List Int
  | 0 => []
  | n + 1 => bitsL v n ++ [v / 2 ^ n % 2]
theorem bitsL_length (v : Int) : ∀ n, (bitsL v n).length = n
  | 0 => rfl
  | n + 1 => by simp [bitsL, bitsL_length v n]
/-- The number that bits are. -/
def valL : List Int → Int
  | [] => 0
  | b :: r => b + 2 * valL r
def IsBits (l : List Int) : Prop := ∀ b ∈ l, b = 0 ∨ b = 1
theorem IsBits.nil : IsBits [] := fun _ h => by cases h
theorem IsBits.append {l m : List Int} (h : IsBits l) (k : IsBits m) : IsBits (l ++ m) := fun b hb => by
  rcases List.mem_append.1 hb with h1 | h1
  · exact h b h1
  · exact k b h1
theorem IsBits.take {l : List Int} (h : IsBits l) (n : Nat) : IsBits (l.take n) := fun b hb => h b (List.mem_of_mem_take hb)
theorem IsBits.drop {l : List Int} (h : IsBits l) (n : Nat) : IsBits (l.drop n) := fun b hb => h b (List.mem_of_mem_drop hb)
theorem IsBits.rev {l : List Int} (h : IsBits l) : IsBits l.reverse := fun b hb => h b (List.mem_reverse.1 hb)
theorem isBits_bitsL (v : Int) : ∀ n, IsBits (bitsL v n)
  | 0 => IsBits.nil
  | n + 1 => (isBits_bitsL v n).append (fun b hb => by
    have : b = v / 2 ^ n % 2 := by simpa using hb
    omega)
theorem valL_range : ∀ {l : List Int}, IsBits l → 0 ≤ valL l ∧ valL l < 2 ^ l.length
  | [], _ => by simp [valL]
  | b :: r, h => by
    have h1 := valL_range (l := r) (fun x hx => h x (by simp [hx]))
    have h2 := h b (by simp)
    simp only [valL, List.length_cons, Int.pow_succ]
    omega
theorem valL_append : ∀ (l m : List Int), valL (l ++ m) = valL l + 2 ^ l.length * valL m
  | [], m => by simp [valL]
  | b :: r, m => by
    simp only [List.cons_append, valL, valL_append r m, List.length_cons, Int.pow_succ, Int.mul_add]
    rw [Int.mul_comm (2 ^ r.length) 2, Int.mul_assoc]
    omega
theorem valL_bitsL (v : Int) (h0 : 0 ≤ v) : ∀ n, valL (bitsL v n) = v % 2 ^ n
  | 0 => by simp [bitsL, valL]
  | n + 1 => by
    rw [bitsL, valL_append, valL_bitsL v h0 n, bitsL_length]
    simp only [valL, Int.mul_zero, Int.add_zero]
    have hp : (0 : Int) < 2 ^ n := Int.pow_pos (by omega)
    have e1 := Int.emod_add_mul_ediv v (2 ^ n)
    have e2 : v % 2 ^ (n + 1) = v % 2 ^ n + 2 ^ n * (v / 2 ^ n % 2) := by
      have e3 := Int.emod_add_mul_ediv v (2 ^ (n + 1))
      have e4 := Int.emod_add_mul_ediv (v / 2 ^ n) 2
      have e5 : v / 2 ^ (n + 1) = v / 2 ^ n / 2 := by
        rw [Int.pow_succ, Int.ediv_ediv_of_nonneg (by omega)]
      rw [e5, Int.pow_succ, Int.mul_assoc] at e3
      have e6 : 2 ^ n * (v / 2 ^ n % 2) + 2 ^ n * (2 * (v / 2 ^ n / 2)) = 2 ^ n * (v / 2 ^ n) := by
        rw [← Int.mul_add, e4]
      rw [Int.pow_succ]
      omega
    rw [e2]
/-- Bytes of bits, the last one filled up. -/
def packG : Nat → List Int → List Int
  | 0, _ => []
  | f + 1, l => if l = [] then [] else valL (l.take 8) :: packG f (l.drop 8)
def packF (l : List Int) : List Int := packG l.length l
theorem packG_fuel : ∀ (f g : Nat) (l : List Int), l.length ≤ f → l.length ≤ g → packG f l = packG g l
  | 0, 0, _, _, _ => rfl
  | 0, g + 1, l, h, _ => by
    have : l = [] := List.eq_nil_of_length_eq_zero (by omega)
    subst this
    simp [packG]
  | f + 1, 0, l, _, h => by
    have : l = [] := List.eq_nil_of_length_eq_zero (by omega)
    subst this
    simp [packG]
  | f + 1, g + 1, l, h1, h2 => by
    rw [packG, packG]
    by_cases hp : l = []
    · rw [if_pos hp, if_pos hp]
    · have : 0 < l.length := List.length_pos_iff.2 hp
      rw [if_neg hp, if_neg hp, packG_fuel f g (l.drop 8) (by simp; omega) (by simp; omega)]
theorem packF_cons {l : List Int} (h : 0 < l.length) : packF l = valL (l.take 8) :: packF (l.drop 8) := by
  unfold packF
  obtain ⟨f, hf⟩ : ∃ f, l.length = f + 1 := ⟨l.length - 1, by omega⟩
  have hp : l ≠ [] := List.length_pos_iff.1 h
  rw [show packG l.length l = packG (f + 1) l from by rw [hf], packG, if_neg hp, packG_fuel f (l.drop 8).length _ (by simp; omega) (by simp)]
theorem packF_nil : packF [] = [] := rfl
/-- Whole bytes ahead. -/
theorem packF_append : ∀ (k : Nat) (l m : List Int), l.length = 8 * k → packF (l ++ m) = packF l ++ packF m
  | 0, l, m, h => by
    have : l = [] := List.eq_nil_of_length_eq_zero (by omega)
    subst this
    rfl
  | k + 1, l, m, h => by
    rw [packF_cons (l := l ++ m) (by simp; omega), packF_cons (l := l) (by omega), List.take_append_of_le_length (by omega), List.drop_append_of_le_length (by omega), packF_append k (l.drop 8) m (by simp; omega)]
    rfl
theorem packF_one {l : List Int} (h0 : 0 < l.length) (h8 : l.length ≤ 8) : packF l = [valL l] := by
  rw [packF_cons h0, List.take_of_length_le h8, List.drop_of_length_le h8, packF_nil]
theorem packF_len : ∀ (k : Nat) (l : List Int), l.length ≤ k → (packF l).length = (l.length + 7) / 8
  | 0, l, h => by
    have : l = [] := List.eq_nil_of_length_eq_zero (by omega)
    subst this
    rfl
  | k + 1, l, h => by
    by_cases h0 : 0 < l.length
    · rw [packF_cons h0, List.length_cons, packF_len k (l.drop 8) (by simp; omega), List.length_drop]
      omega
    · have : l = [] := List.eq_nil_of_length_eq_zero (by omega)
      subst this
      rfl
theorem packF_all : ∀ (k : Nat) (l : List Int), l.length ≤ k → IsBits l → ∀ x ∈ packF l, 0 ≤ x ∧ x < 256
  | 0, l, h, _ => by
    have : l = [] := List.eq_nil_of_length_eq_zero (by omega)
    subst this
    intro x hx
    cases hx
  | k + 1, l, h, hb => by
    by_cases h0 : 0 < l.length
    · rw [packF_cons h0]
      intro x hx
      rcases List.mem_cons.1 hx with rfl | hx
      · have h1 := valL_range (hb.take 8)
        have h2 : (2 : Int) ^ (l.take 8).length ≤ 2 ^ 8 := by
          have : (2 : Nat) ^ (l.take 8).length ≤ 2 ^ 8 := Nat.pow_le_pow_right (by omega) (by simp; omega)
          exact_mod_cast this
        omega
      · exact packF_all k (l.drop 8) (by simp; omega) (hb.drop 8) x hx
    · have : l = [] := List.eq_nil_of_length_eq_zero (by omega)
      subst this
      intro x hx
      cases hx

open Go.RowKit

theorem step_append_rd {P : Program} {w : World} {ops : Array Oper} {o : Oper} {a : Act} {K : Act → World → Prop} {Q : Exit → Act → World → Prop} {E : Prop} (hgd : o.guard = none) (s x : Operand) (t : TypeId)
    (ho : o.op = .call { callee := .builtin .append, args := #[s, x], argTypes := #[t, t] })
    (k : IntKind) (S : Nat → Prop) (bytes base : Nat) (e : TypeId) (i : TypeInfo) (z : Value) (ht : P.underlying t = some (.slice e)) (hi : P.info? e = some i) (hz : i.zero = some z)
    (hsize : i.size = 1) (hby : i.bytes = bytes) (hzs : z.cells.size = 1) (hpos : 0 < bytes)
    (v : Value) (xs : List Int) (hsv : a.eval s = v) (hown : Own k e w base v xs)
    (xv : Value) (ys : List Int) (hx : a.eval x = xv) (hs : Rd k S w xv ys)
    (hbytes : (xs.length + ys.length) * bytes ≤ 140737488355328) (hbase : base ≤ w.heap.size)
    (h : ∀ v' w', Own k e w' base v' (xs ++ ys) → w.grownBy w' v.ownBlock → (v'.ownBlock = v.ownBlock ∨ v'.ownBlock = some w.heap.size) → K (a.put o.dst v') w') :
    if Region.wanted o (yielded ops a.tmps) = true then Oper.wp P o a w K Q else E := by
  have hw : Region.wanted o (yielded ops a.tmps) = true := by simp [Region.wanted, hgd]
  rw [if_pos hw]
  obtain ⟨v', w', hr, h2, h3, h4⟩ := run_append_rd (P := P) w k S bytes base t o.type e i z ht hi hz hsize hby hzs hpos v xs hown xv ys hs hbytes hbase
  unfold Oper.wp execOp
  simp only [ho, resolve, invoke, builtin, Sem.run_bind, Sem.run_pure, Result.andThen_ok, List.map_toArray, List.map_cons, List.map_nil, hsv, hx, hr]
  exact h v' w' h2 h3 h4

open Go.RowKit

/-- No block but these two has turned. -/
structure Fq (rb : Nat) (ob : Option Nat) (w w' : World) : Prop where
  os : w'.os = w.os
  tape : w'.tape = w.tape
  output : w'.output = w.output
  size : w.heap.size ≤ w'.heap.size
  block : ∀ k, k < w.heap.size → k ≠ rb → some k ≠ ob → w'.heap[k]? = w.heap[k]?
section
variable {rb : Nat} {ob : Option Nat} {w w1 w2 : World}
theorem Fq.refl (rb : Nat) (ob : Option Nat) (w : World) : Fq rb ob w w := ⟨rfl, rfl, rfl, Nat.le_refl _, fun _ _ _ _ => rfl⟩
theorem Fq.trans (h : Fq rb ob w w1) (k : Fq rb ob w1 w2) : Fq rb ob w w2 :=
  ⟨k.os.trans h.os, k.tape.trans h.tape, k.output.trans h.output, Nat.le_trans h.size k.size, fun i hi h1 h2 => (k.block i (Nat.lt_of_lt_of_le hi h.size) h1 h2).trans (h.block i hi h1 h2)⟩
theorem Fq.set (h : Fq rb ob w w1) (i : Nat) (u : Value) : Fq rb ob w (w1.setCell ⟨rb, i, none⟩ u) :=
  h.trans ⟨rfl, rfl, rfl, by simp [World.setCell], fun k _ hk _ => Below.heap_setCell _ _ _ _ hk⟩
theorem Fq.drewN (h : Fq rb ob w w1) (n : Nat) : Fq rb ob w (w1.drewN n) := ⟨h.os, h.tape, h.output, h.size, h.block⟩
theorem Fq.alloc (h : Fq rb ob w w1) (o : Obj) : Fq rb ob w (w1.alloc o) :=
  h.trans ⟨rfl, rfl, rfl, by simp, fun k hk _ _ => Below.heap_alloc _ _ _ hk⟩
theorem Fq.below {W0 : World} {B : Nat} (h : Fq rb ob w w1) (hb : Below B W0 w) (hr : B ≤ rb) (ho : ∀ k, ob = some k → B ≤ k) (hB : B ≤ w.heap.size) : Below B W0 w1 :=
  hb.trans ⟨h.os, h.tape, h.output, h.size, fun k hk => h.block k (by omega) (by omega) (fun e => by have := ho k e.symm; omega)⟩
end
/-- The same, where what is put out may lie in a new block. -/
structure Mq (rb : Nat) (ob ob' : Option Nat) (w w' : World) : Prop where
  fr : Fq rb ob w w'
  at_ : ob' = ob ∨ ∃ k, ob' = some k ∧ w.heap.size ≤ k
theorem Mq.refl (rb : Nat) (ob : Option Nat) (w : World) : Mq rb ob ob w w := ⟨Fq.refl _ _ _, Or.inl rfl⟩
theorem Fq.mv {rb : Nat} {ob : Option Nat} {w w' : World} (h : Fq rb ob w w') : Mq rb ob ob w w' := ⟨h, Or.inl rfl⟩
theorem Mq.trans {rb : Nat} {ob ob1 ob2 : Option Nat} {w w1 w2 : World} (h : Mq rb ob ob1 w w1) (k : Mq rb ob1 ob2 w1 w2) : Mq rb ob ob2 w w2 := by
  have hz := h.fr.size
  refine ⟨⟨k.fr.os.trans h.fr.os, k.fr.tape.trans h.fr.tape, k.fr.output.trans h.fr.output, Nat.le_trans h.fr.size k.fr.size, fun i hi h1 h2 => ?_⟩, ?_⟩
  · refine (k.fr.block i (by omega) h1 ?_).trans (h.fr.block i hi h1 h2)
    rcases h.at_ with e | ⟨g, e, hg⟩
    · rw [e]; exact h2
    · rw [e]; intro e'; simp at e'; omega
  · rcases k.at_ with e | ⟨g, e, hg⟩
    · rw [e]; exact h.at_
    · exact Or.inr ⟨g, e, by omega⟩
theorem Mq.drewN {rb : Nat} {ob ob1 : Option Nat} {w w1 : World} (h : Mq rb ob ob1 w w1) (n : Nat) : Mq rb ob ob1 w (w1.drewN n) := ⟨h.fr.drewN n, h.at_⟩
theorem Mq.set {rb : Nat} {ob ob1 : Option Nat} {w w1 : World} (h : Mq rb ob ob1 w w1) (i : Nat) (u : Value) : Mq rb ob ob1 w (w1.setCell ⟨rb, i, none⟩ u) := h.trans ((Fq.refl rb ob1 w1).set i u).mv
/-- A block that was there ahead and is neither of the two. -/
theorem Mq.keep {rb : Nat} {ob ob1 : Option Nat} {w w1 : World} (h : Mq rb ob ob1 w w1) (k : Nat) (hk : k < w.heap.size) (h1 : k ≠ rb) (h2 : some k ≠ ob) : w1.heap[k]? = w.heap[k]? := h.fr.block k hk h1 h2

/-- The writer's block. -/
def WB (w : World) (rb : Nat) (outV : Value) (b held : Int) : Prop :=
  w.heap[rb]? = some (.cells #[outV, .int .u32 b, .int .i64 held] 59)
section
variable {w : World} {rb : Nat} {outV : Value} {b held : Int}
theorem WB.lt (h : WB w rb outV b held) : rb < w.heap.size := by
  rcases Nat.lt_or_ge rb w.heap.size with h' | h'
  · exact h'
  · unfold WB at h
    rw [Array.getElem?_eq_none h'] at h
    cases h
theorem WB.c0 (h : WB w rb outV b held) : w.cell? ⟨rb, 0, none⟩ = some outV := by unfold WB at h; simp [World.cell?, h]
theorem WB.c1 (h : WB w rb outV b held) : w.cell? ⟨rb, 1, none⟩ = some (.int .u32 b) := by unfold WB at h; simp [World.cell?, h]
theorem WB.c2 (h : WB w rb outV b held) : w.cell? ⟨rb, 2, none⟩ = some (.int .i64 held) := by unfold WB at h; simp [World.cell?, h]
theorem WB.fz (h : WB w rb outV b held) (i : Nat) : w.frozen? ⟨rb, i, none⟩ = false := by unfold WB at h; simp [World.frozen?, h]
theorem WB.s0 (h : WB w rb outV b held) (n : Value) : WB (w.setCell ⟨rb, 0, none⟩ n) rb n b held := by
  unfold WB at h ⊢
  simp only [World.setCell, Array.getElem?_modify, h]
  simp
theorem WB.s1 (h : WB w rb outV b held) (n : Int) : WB (w.setCell ⟨rb, 1, none⟩ (.int .u32 n)) rb outV n held := by
  unfold WB at h ⊢
  simp only [World.setCell, Array.getElem?_modify, h]
  simp
theorem WB.s2 (h : WB w rb outV b held) (n : Int) : WB (w.setCell ⟨rb, 2, none⟩ (.int .i64 n)) rb outV b n := by
  unfold WB at h ⊢
  simp only [World.setCell, Array.getElem?_modify, h]
  simp
theorem WB.far {w' : World} (h : WB w rb outV b held) (hb : w'.heap[rb]? = w.heap[rb]?) : WB w' rb outV b held := by
  unfold WB at h ⊢
  rw [hb]
  exact h
end

/-- The writer: of the bits L the first 8 j are put out. -/
structure Wt (W0 w : World) (rb : Nat) (ob : Option Nat) (L : List Int) (j : Nat) : Prop where
  blk : ∃ outV, WB w rb outV (valL (L.drop (8 * j))) ((L.length - 8 * j : Nat) : Int) ∧ Own .u8 5 w W0.heap.size outV (packF (L.take (8 * j))) ∧ outV.ownBlock = ob
  le : 8 * j ≤ L.length
  ib : IsBits L
  bel : Below W0.heap.size W0 w
  hb : W0.heap.size ≤ rb
  ho : ob ≠ some rb
  lb : L.length ≤ 1073741824
section
variable {W0 w : World} {rb : Nat} {ob : Option Nat} {L : List Int} {j : Nat}
theorem Wt.ob_ge (h : Wt W0 w rb ob L j) : ∀ k, ob = some k → W0.heap.size ≤ k ∧ k < w.heap.size := by
  intro k hk
  obtain ⟨outV, _, own, hob⟩ := h.blk
  exact own.lt k (by rw [hob]; exact hk)
theorem Wt.rb_lt (h : Wt W0 w rb ob L j) : rb < w.heap.size := by
  obtain ⟨_, hB, -⟩ := h.blk
  exact hB.lt
theorem Wt.far {w' : World} (h : Wt W0 w rb ob L j) (hf : Below w.heap.size w w') : Wt W0 w' rb ob L j := by
  obtain ⟨outV, hB, own, hob⟩ := h.blk
  exact ⟨⟨outV, hB.far (hf.block _ hB.lt), own.later hf (Nat.le_refl _), hob⟩, h.le, h.ib, h.bel.trans (hf.mono h.bel.size), h.hb, h.ho, h.lb⟩
theorem Wt.drewN (h : Wt W0 w rb ob L j) (m : Nat) : Wt W0 (w.drewN m) rb ob L j := h.far ⟨rfl, rfl, rfl, Nat.le_refl _, fun _ _ => rfl⟩
end

/-- Bits laid behind those that are held. -/
theorem or_lay (V y : Int) (held n : Nat) (h0 : 0 ≤ V) (h1 : V < 2 ^ held) (hh : held < 8) (hn : n ≤ 16) (hy0 : 0 ≤ y) (hy1 : y < 2 ^ n) : bits .or .u32 V (y * 2 ^ held % 4294967296) = V + 2 ^ held * y ∧ 0 ≤ V + 2 ^ held * y ∧ V + 2 ^ held * y < 16777216 := by
  have hp : (2 : Int) ^ held ≤ 2 ^ 7 := by
    have : (2 : Nat) ^ held ≤ 2 ^ 7 := Nat.pow_le_pow_right (by omega) (by omega)
    exact_mod_cast this
  have hpn : (2 : Int) ^ n ≤ 2 ^ 16 := by
    have : (2 : Nat) ^ n ≤ 2 ^ 16 := Nat.pow_le_pow_right (by omega) (by omega)
    exact_mod_cast this
  have hp0 : (0 : Int) < 2 ^ held := Int.pow_pos (by omega)
  simp only [Int.reducePow] at hp hpn
  have hm : y * 2 ^ held ≤ 65535 * 128 := Int.mul_le_mul (by omega) hp (by omega) (by omega)
  have hm0 : 0 ≤ y * 2 ^ held := Int.mul_nonneg hy0 (by omega)
  have hq : ((2 : Int) ^ held) = ((2 ^ held : Nat) : Int) := by simp
  have hz : (y * 2 ^ held).toNat % 2 ^ held = 0 := by
    obtain ⟨z, rfl⟩ := Int.eq_ofNat_of_zero_le hy0
    rw [hq, ← Int.natCast_mul, Int.toNat_natCast]
    exact Nat.mul_mod_left _ _
  have hl : V.toNat < 2 ^ held := by
    have : V < ((2 ^ held : Nat) : Int) := by rw [← hq]; exact h1
    omega
  rw [Int.mul_comm (2 ^ held) y]
  refine ⟨?_, by omega, by omega⟩
  rw [Int.emod_eq_of_lt hm0 (by omega), u32_or V _ h0 (by omega) hm0 (by omega), Nat.or_comm, nat_join held _ _ hz hl]
  omega
theorem pow_split (B : List Int) : valL B = valL (B.take 8) + 2 ^ (B.take 8).length * valL (B.drop 8) := by
  rw [← valL_append, List.take_append_drop]
/-- A byte of bits goes. -/
theorem val_byte {B : List Int} (h : IsBits B) (h8 : 8 ≤ B.length) : valL B % 256 = valL (B.take 8) ∧ valL B / 256 = valL (B.drop 8) := by
  have h1 := pow_split B
  have h2 := valL_range (h.take 8)
  rw [show (B.take 8).length = 8 from by simp; omega] at h1 h2
  simp only [Int.reducePow] at h1 h2
  omega
theorem pack_byte (L : List Int) (j : Nat) (h : 8 * j + 8 ≤ L.length) : packF (L.take (8 * (j + 1))) = packF (L.take (8 * j)) ++ [valL ((L.drop (8 * j)).take 8)] := by
  have e : L.take (8 * (j + 1)) = L.take (8 * j) ++ (L.drop (8 * j)).take 8 := by
    rw [show 8 * (j + 1) = 8 * j + 8 from by omega, List.take_add]
  rw [e, packF_append j _ _ (by simp; omega), packF_one (l := (L.drop (8 * j)).take 8) (by simp; omega) (by simp; omega)]
theorem drop_add8 (L : List Int) (j : Nat) : (L.drop (8 * j)).drop 8 = L.drop (8 * (j + 1)) := by
  rw [List.drop_drop]
  congr 1
theorem val_laid (L : List Int) (j n : Nat) (v : Int) (hle : 8 * j ≤ L.length) (h0 : 0 ≤ v) (h1 : v < 2 ^ n) : valL ((L ++ bitsL v n).drop (8 * j)) = valL (L.drop (8 * j)) + 2 ^ (L.length - 8 * j) * v := by
  rw [List.drop_append_of_le_length hle, valL_append, valL_bitsL v h0 n, Int.emod_eq_of_lt h0 h1, List.length_drop]

open Go.RowKit

/-- What a call of the writer leaves: these bits behind those that were there. -/
def AfterW (W0 w w' : World) (rb : Nat) (ob : Option Nat) (L : List Int) (e : Ending) : Prop :=
  e = .returned (.tuple #[]) ∧ ∃ ob' j', Wt W0 w' rb ob' L j' ∧ L.length < 8 * j' + 8 ∧ Mq rb ob ob' w w'

/-- A byte of bits has gone. -/
theorem Wt.byte {W0 wr w1 : World} {rb : Nat} {ob1 : Option Nat} {B X : List Int} {i oc nc H1 K : Nat} {oa na : Option Addr} {V1 x : Int} (hT : Wt W0 wr rb ob1 B i) (hob : (Value.slice oa X.length oc).ownBlock = ob1)
    (hH : B.length - 8 * i = H1) (h8 : 8 ≤ H1) (hd : V1 / 256 = valL ((B.drop (8 * i)).drop 8)) (hN : packF (B.take (8 * (i + 1))) = X ++ [x]) (hR : WB w1 rb (.slice oa X.length oc) V1 H1) (hF : Fq rb ob1 wr w1)
    (hO : Own .u8 5 w1 W0.heap.size (.slice na (X ++ [x]).length nc) (X ++ [x])) (hat : (Value.slice na (X ++ [x]).length nc).ownBlock = (Value.slice oa X.length oc).ownBlock ∨ (Value.slice na (X ++ [x]).length nc).ownBlock = some K) (hK : wr.heap.size ≤ K) :
    Wt W0 (((w1.setCell ⟨rb, 0, none⟩ (.slice na (X.length + 1) nc)).setCell ⟨rb, 1, none⟩ (.int .u32 (V1 / 256))).setCell ⟨rb, 2, none⟩ (.int .i64 ((H1 : Int) - 8))) rb (Value.slice na (X.length + 1) nc).ownBlock B (i + 1) ∧
      Mq rb ob1 (Value.slice na (X.length + 1) nc).ownBlock wr (((w1.setCell ⟨rb, 0, none⟩ (.slice na (X.length + 1) nc)).setCell ⟨rb, 1, none⟩ (.int .u32 (V1 / 256))).setCell ⟨rb, 2, none⟩ (.int .i64 ((H1 : Int) - 8))) := by
  have hle := hT.le
  have hlt := hT.rb_lt
  simp only [List.length_append, List.length_singleton] at hO hat
  have ho2 : (Value.slice na (X.length + 1) nc).ownBlock ≠ some rb := by
    rcases hat with e | e
    · rw [e, hob]; exact hT.ho
    · rw [e]; simp; omega
  have hFF := ((hF.set 0 (.slice na (X.length + 1) nc)).set 1 (.int .u32 (V1 / 256))).set 2 (.int .i64 ((H1 : Int) - 8))
  have hF2 := (((Fq.refl rb none w1).set 0 (.slice na (X.length + 1) nc)).set 1 (.int .u32 (V1 / 256))).set 2 (.int .i64 ((H1 : Int) - 8))
  refine ⟨⟨⟨_, ?_, ?_, rfl⟩, by omega, hT.ib, hFF.below hT.bel hT.hb (fun k hk => (hT.ob_ge k hk).1) hT.bel.size, hT.hb, ho2, hT.lb⟩, hFF, ?_⟩
  · rw [← drop_add8, ← hd, show ((B.length - 8 * (i + 1) : Nat) : Int) = (H1 : Int) - 8 from by omega]
    exact ((hR.s0 _).s1 _).s2 _
  · rw [hN]
    exact hO.far fun g hg => hF2.block g (hO.lt g hg).2 (fun e => ho2 (by rw [hg, e])) (by simp)
  · rcases hat with e | e
    · exact Or.inl (by rw [e, hob])
    · exact Or.inr ⟨K, e, hK⟩

set_option maxHeartbeats 1000000 in
set_option maxRecDepth 100000 in
theorem wnumber_any {W0 w : World} {rb : Nat} {ob : Option Nat} {L : List Int} {j : Nat} (v : Int) (n : Nat) (hv0 : 0 ≤ v) (hv1 : v < 2 ^ n) (hn : n ≤ 16) (h : Wt W0 w rb ob L j) (hj : L.length < 8 * j + 8) (hl : L.length + n ≤ 1073741824) :
    Calls Tryd.prog 38 #[.pointer (some ⟨rb, 0, none⟩), .int .i64 v, .int .i64 n] w fun e w' => AfterW W0 w w' rb ob (L ++ bitsL v n) e := by
  obtain ⟨i0, z0, hi, hz, hs, hb, hc⟩ := info8
  obtain ⟨outV, hB, own, hob⟩ := h.blk
  have hvr := valL_range (h.ib.drop (8 * j))
  rw [List.length_drop] at hvr
  have hle := h.le
  have hlay := or_lay _ v _ n hvr.1 hvr.2 (by omega) hn hv0 hv1
  have hval := val_laid L j n v hle hv0 hv1
  have hn16 : v < 65536 := by
    have : (2 : Int) ^ n ≤ 2 ^ 16 := by
      have : (2 : Nat) ^ n ≤ 2 ^ 16 := Nat.pow_le_pow_right (by omega) (by omega)
      exact_mod_cast this
    simp only [Int.reducePow] at this
    omega
  obtain ⟨H, hH⟩ : ∃ H : Nat, L.length - 8 * j = H := ⟨_, rfl⟩
  obtain ⟨V, hV⟩ : ∃ V, valL (L.drop (8 * j)) = V := ⟨_, rfl⟩
  rw [hH, hV] at hvr hlay hval hB
  have c1 := hB.c1
  have c2 := hB.c2
  have f1 := hB.fz 1
  have f2 := hB.fz 2
  have hwz := h.bel.size
  have hH8 : H < 8 := by omega
  have HW : Kept (∀ m, Wt W0 (((w.drewN m).setCell ⟨rb, 1, none⟩ (.int .u32 (V + 2 ^ H * v))).setCell ⟨rb, 2, none⟩ (.int .i64 ((H : Int) + (n : Int)))) rb ob (L ++ bitsL v n) j ∧ Mq rb ob ob w (((w.drewN m).setCell ⟨rb, 1, none⟩ (.int .u32 (V + 2 ^ H * v))).setCell ⟨rb, 2, none⟩ (.int .i64 ((H : Int) + (n : Int))))) := ⟨fun m => by
    have hF := (((Fq.refl rb ob w).drewN m).set 1 (.int .u32 (V + 2 ^ H * v))).set 2 (.int .i64 ((H : Int) + (n : Int)))
    have hF0 := (((Fq.refl rb none w).drewN m).set 1 (.int .u32 (V + 2 ^ H * v))).set 2 (.int .i64 ((H : Int) + (n : Int)))
    refine ⟨⟨⟨outV, ?_, ?_, hob⟩, by simp; omega, h.ib.append (isBits_bitsL v n), hF.below h.bel h.hb (fun k hk => (h.ob_ge k hk).1) hwz, h.hb, h.ho, by rw [List.length_append, bitsL_length]; omega⟩, hF.mv⟩
    · have hB' : WB (w.drewN m) rb outV V H := hB
      rw [hval, List.length_append, bitsL_length, show ((L.length + n - 8 * j : Nat) : Int) = (H : Int) + (n : Int) from by omega]
      exact (hB'.s1 _).s2 _
    · rw [List.take_append_of_le_length hle]
      exact own.far fun g hg => hF0.block g (own.lt g hg).2 (fun e => h.ho (by rw [← hob, hg, e])) (by simp)⟩
  have KL := Kept.mk hlay
  clear h own hob hB hlay hvr hval hV
  obtain ⟨B, hBB⟩ : ∃ B, L ++ bitsL v n = B := ⟨_, rfl⟩
  rw [hBB]
  go_enter Tryd.func38, Tryd.ntmps38
  go_upto_region 0 with fail
  refine wp_region_last _ 14 (by kernel_rfl) (by kernel_rfl) rfl rfl ?_
  simp only [List.take_succ_cons, List.take_zero]
  repeat (go_big_quiet_step (fail))
  refine wpQuiet_nil ?_
  intro m
  go_wp2
  rw [KL.out.1]
  obtain ⟨w2, hw2, hW2⟩ : ∃ w2, (((w.drewN m).setCell ⟨rb, 1, none⟩ (.int .u32 (V + 2 ^ H * v))).setCell ⟨rb, 2, none⟩ (.int .i64 ((H : Int) + (n : Int)))) = w2 ∧ Wt W0 w2 rb ob (L ++ bitsL v n) j ∧ Mq rb ob ob w w2 := ⟨_, rfl, HW.out m⟩
  rw [hw2]
  have hLB : (L ++ bitsL v n).length ≤ 1073741824 := by rw [List.length_append, bitsL_length]; omega
  rw [hBB] at hW2
  have KW2 := Kept.mk hW2
  clear hw2 hW2 HW KL c1 c2 f1 f2 hH8 hH hn16 hle hl hj hv0 hv1 hn
  rw [hBB] at hLB
  clear hBB
  go_loopw [] (fun wr => ∃ ob' i, Wt W0 wr rb ob' B i ∧ Mq rb ob ob' w wr) (fun wr => (intOf ((wr.cell? ⟨rb, 2, none⟩).getD (.int .i64 0))).toNat)
  case atStart => exact ⟨ob, j, KW2.out⟩
  case round =>
    obtain ⟨ob1, i, hT, hM⟩ := hrel
    obtain ⟨outV, hB, own, hob⟩ := hT.blk
    obtain ⟨oa, oc, rfl, -, -, -⟩ := own.rd.form
    have hvr := valL_range (hT.ib.drop (8 * i))
    rw [List.length_drop] at hvr
    have hle := hT.le
    have hbyte := fun h8 => val_byte (hT.ib.drop (8 * i)) h8
    rw [List.length_drop] at hbyte
    obtain ⟨H1, hH1⟩ : ∃ H1 : Nat, B.length - 8 * i = H1 := ⟨_, rfl⟩
    obtain ⟨V1, hV1⟩ : ∃ V1, valL (B.drop (8 * i)) = V1 := ⟨_, rfl⟩
    rw [hH1, hV1] at hvr hB hbyte
    have c0 := hB.c0
    have c1 := hB.c1
    have c2 := hB.c2
    have f0 := hB.fz 0
    have f1 := hB.fz 1
    have f2 := hB.fz 2
    have hwz1 := hT.bel.size
    have KT := Kept.mk hT
    have KM := Kept.mk hM
    have KO := Kept.mk own
    have KB := Kept.mk hob
    have KR := Kept.mk hB
    clear hT hM own hob hB
    by_cases h8 : H1 < 8
    · go_wp2
      refine bodyPost_end (results_none rfl _ _ _) rfl ?_
      exact ⟨rfl, ob1, i, KT.out, by omega, KM.out⟩
    · have h8n : 8 ≤ H1 := by omega
      have h8i : (8 : Int) ≤ (H1 : Int) := by omega
      obtain ⟨hy, hd⟩ := hbyte (by omega)
      go_upto_region 3 with fail
      have hXl : (packF (List.take (8 * i) B)).length ≤ 1073741824 := by
        rw [packF_len _ _ (Nat.le_refl _), List.length_take]
        omega
      have KN : Kept (packF (List.take (8 * (i + 1)) B) = packF (List.take (8 * i) B) ++ [IntKind.u8.wrap V1]) := ⟨by
        rw [pack_byte B i (by omega), ← hy]
        congr 2⟩
      have KD := Kept.mk hd
      clear hd hy hbyte hV1
      generalize packF (List.take (8 * i) B) = X at *
      have KOA : Kept (∀ (w' : World) (o : Obj), w'.heap = (wr.alloc o).heap → Own .u8 5 w' W0.heap.size (.slice oa X.length oc) X) := ⟨fun w' o he => (KO.out.alloc o).far fun g _ => by rw [he]⟩
      have KRA : Kept (∀ (w' : World) (x : Int), w'.heap = (wr.alloc (.cells #[.int .u8 x] 5)).heap → Rd .u8 anyB w' (.slice (some ⟨wr.heap.size, 0, none⟩) 1 1) [x]) := ⟨fun w' x he => (Rd.one .u8 wr x 5).far (Nat.le_of_eq (by rw [he])) (fun b _ _ => ⟨trivial, by rw [he]⟩)⟩
      have KG : Kept (∀ (w' w1 : World) (o : Obj), w'.heap = (wr.alloc o).heap → w'.os = wr.os → w'.tape = wr.tape → w'.output = wr.output → w'.grownBy w1 (Value.slice oa X.length oc).ownBlock → WB w1 rb (.slice oa X.length oc) V1 H1 ∧ Fq rb ob1 wr w1) := ⟨fun w' w1 o he h1 h2 h3 hg => by
        have hsz : w'.heap.size = wr.heap.size + 1 := by rw [he]; simp
        have hlt := KR.out.lt
        constructor
        · refine KR.out.far ?_
          rw [hg.block rb (by omega) (fun e => KT.out.ho (by rw [← KB.out, ← e])), he]
          exact Below.heap_alloc wr _ rb hlt
        · refine ⟨hg.os.trans h1, hg.tape.trans h2, hg.output.trans h3, by have := hg.size; omega, fun k hk _ h5 => ?_⟩
          rw [hg.block k (by omega) (by rw [KB.out]; exact h5), he]
          exact Below.heap_alloc wr _ k hk⟩
      have KA : Kept (∀ (w' : World) (o : Obj), w'.heap = (wr.alloc o).heap → w'.cell? ⟨rb, 0, none⟩ = some (.slice oa X.length oc) ∧ w'.cell? ⟨rb, 1, none⟩ = some (.int .u32 V1)) := ⟨fun w' o he => by
        have hW : WB w' rb (.slice oa X.length oc) V1 H1 := KR.out.far (by rw [he]; exact Below.heap_alloc wr _ rb KR.out.lt)
        exact ⟨hW.c0, hW.c1⟩⟩
      have cA : ∀ o, (wr.alloc o).cell? ⟨rb, 0, none⟩ = some (.slice oa X.length oc) := fun o => (KA.out _ o rfl).1
      go_region_law ((refine step_append_rd (by rfl) _ _ 22 (by rfl) .u8 anyB 1 W0.heap.size 5 i0 z0 Tryd.underlying22 hi hz hs hb hc (by omega) (.slice oa X.length oc) X (by rfl) (KOA.out _ _ rfl) _ [IntKind.u8.wrap V1] (by rfl) (KRA.out _ _ rfl) (by simp; omega) (by simp; omega) ?_; intro v1 w1 hown hgrow hat; obtain ⟨na, nc, rfl, -, hl2, hcm2⟩ := hown.rd.form; obtain ⟨hR1, hF1⟩ := KG.out ((wr.alloc (.cells #[.int .u8 (IntKind.u8.wrap V1)] 5)).drew) w1 _ rfl rfl rfl rfl hgrow; have c01 := hR1.c0; have c11 := hR1.c1; have c21 := hR1.c2; have f01 := hR1.fz 0; have f11 := hR1.fz 1; have f21 := hR1.fz 2; have KR1 := Kept.mk hR1; have KF1 := Kept.mk hF1; have KO1 := Kept.mk hown; have KA1 := Kept.mk hat; clear hR1 hF1 hown hgrow hat hl2 hcm2))
      all_goals
        obtain ⟨hWt, hMq⟩ := KT.out.byte KB.out hH1 h8n KD.out KN.out KR1.out KF1.out KO1.out KA1.out (by simp)
        have KWt := Kept.mk hWt
        have KMq := Kept.mk hMq
        clear hWt hMq
        go_wp2
        go_roundw
        case rel => exact ⟨_, i + 1, KWt.out, KM.out.trans KMq.out⟩
        case measure =>
          obtain ⟨_, hBB, -⟩ := KWt.out.blk
          rw [hBB.c2, c2]
          simp [intOf]
          omega
end Go.Proofs.YtjijkcmbbccfmaaDoor
