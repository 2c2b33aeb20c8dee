/-
  Pure: the pieces of three lists. Lists of pieces in memory. A slice of lines cut out of another one.
-/
import Derived.Test.YtidpdhnbnecddaaM3
import Derived.Test.YtidpdhnbnecddaaM12
import Derived.Maps.AppendAt
namespace Go.Proofs.Ytidpdhnbnecddaa
open Go.RowKit

abbrev Pc := List ByteArray × List ByteArray × List ByteArray
def sg (L : List ByteArray) (lo hi : Nat) : List ByteArray := (L.drop lo).take (hi - lo)
/-- The pieces from a line of base on. -/
def ctG (O A B : List ByteArray) (X Y : List Int) : Nat → Nat → Nat → Nat → Nat → List Pc
  | 0, _, i, j, k => [(O.drop i, A.drop j, B.drop k)]
  | f + 1, x, i, j, k =>
    if X.getD x (-1) = -1 ∨ Y.getD x (-1) = -1 then ctG O A B X Y f (x + 1) i j k
    else (sg O i x, sg A j (X.getD x (-1)).toNat, sg B k (Y.getD x (-1)).toNat) :: (sg O x (x + 1), sg A (X.getD x (-1)).toNat ((X.getD x (-1)).toNat + 1), sg B (Y.getD x (-1)).toNat ((Y.getD x (-1)).toNat + 1)) :: ctG O A B X Y f (x + 1) (x + 1) ((X.getD x (-1)).toNat + 1) ((Y.getD x (-1)).toNat + 1)
def cutP (O A B : List ByteArray) : List Pc := ctG O A B (plP O A) (plP O B) O.length 0 0 0 0
theorem ctG_zero (O A B : List ByteArray) (X Y : List Int) (x i j k : Nat) : ctG O A B X Y 0 x i j k = [(O.drop i, A.drop j, B.drop k)] := rfl
theorem ctG_pass {O A B : List ByteArray} {X Y : List Int} {f x i j k : Nat} {y z : Int} (hy : X[x]? = some y) (hz : Y[x]? = some z) (h : y = -1 ∨ z = -1) : ctG O A B X Y (f + 1) x i j k = ctG O A B X Y f (x + 1) i j k := by
  rw [ctG, List.getD, hy, List.getD, hz]
  exact if_pos h
theorem ctG_hit {O A B : List ByteArray} {X Y : List Int} {f x i j k y z : Nat} (hy : X[x]? = some (y : Int)) (hz : Y[x]? = some (z : Int)) : ctG O A B X Y (f + 1) x i j k = (sg O i x, sg A j y, sg B k z) :: (sg O x (x + 1), sg A y (y + 1), sg B z (z + 1)) :: ctG O A B X Y f (x + 1) (x + 1) (y + 1) (z + 1) := by
  rw [ctG, List.getD, hy, List.getD, hz]
  simp only [Option.getD_some, Int.toNat_natCast]
  exact if_neg (by omega)
/-- What is known of the place where cut stands. -/
structure CtI (A B : List ByteArray) (X Y : List Int) (x i j k : Nat) : Prop where
  ix : i ≤ x
  jx : ∀ (x' : Nat) (y : Int), x ≤ x' → X[x']? = some y → y ≠ -1 → (j : Int) ≤ y
  kx : ∀ (x' : Nat) (y : Int), x ≤ x' → Y[x']? = some y → y ≠ -1 → (k : Int) ≤ y
  jl : j ≤ A.length
  kl : k ≤ B.length
theorem CtI.start {O A B : List ByteArray} {X Y : List Int} (hX : PlI X (O.length, A.length)) (hY : PlI Y (O.length, B.length)) : CtI A B X Y 0 0 0 0 :=
  ⟨Nat.le_refl _, fun x' y _ h1 h2 => by have := hX.within x' y h1 h2; omega, fun x' y _ h1 h2 => by have := hY.within x' y h1 h2; omega, Nat.zero_le _, Nat.zero_le _⟩
theorem CtI.pass {A B : List ByteArray} {X Y : List Int} {x i j k : Nat} (h : CtI A B X Y x i j k) : CtI A B X Y (x + 1) i j k :=
  ⟨Nat.le_succ_of_le h.ix, fun x' y hx => h.jx x' y (by omega), fun x' y hx => h.kx x' y (by omega), h.jl, h.kl⟩
theorem CtI.hit {O A B : List ByteArray} {X Y : List Int} {x y z : Nat} (hX : PlI X (O.length, A.length)) (hY : PlI Y (O.length, B.length)) (hy : X[x]? = some (y : Int)) (hz : Y[x]? = some (z : Int)) : CtI A B X Y (x + 1) (x + 1) (y + 1) (z + 1) := by
  have h1 := hX.within x y hy (by omega)
  have h2 := hY.within x z hz (by omega)
  simp only at h1 h2
  refine ⟨Nat.le_refl _, fun x' v hx hv hn => ?_, fun x' v hx hv hn => ?_, by omega, by omega⟩
  · have := hX.rise x' x v y (by omega) hv hy hn (by omega)
    omega
  · have := hY.rise x' x v z (by omega) hv hz hn (by omega)
    omega
/-- Pieces with what stands for them in memory. -/
abbrev Pq := Pc × (Value × Value × Value)
def pcC (q : Pq) : List Value := [q.2.1, q.2.2.1, q.2.2.2]
def pcV (qs : List Pq) : List Value := qs.flatMap pcC
theorem pcV_len (qs : List Pq) : (pcV qs).length = qs.length * 3 := by
  induction qs with
  | nil => rfl
  | cons h hs ih => unfold pcV at ih ⊢; rw [List.flatMap_cons, List.length_append, ih, List.length_cons]; show 3 + _ = _; omega
theorem pcV_append (qs rs : List Pq) : pcV (qs ++ rs) = pcV qs ++ pcV rs := by unfold pcV; rw [List.flatMap_append]
theorem pcV_get {qs : List Pq} {k : Nat} {q : Pq} (hk : qs[k]? = some q) : (pcV qs)[k * 3]? = some q.2.1 ∧ (pcV qs)[k * 3 + 1]? = some q.2.2.1 ∧ (pcV qs)[k * 3 + 2]? = some q.2.2.2 := by
  induction qs generalizing k with
  | nil => cases hk
  | cons x r ih =>
    cases k with
    | zero =>
      have : x = q := by simpa using hk
      subst this
      exact ⟨rfl, rfl, rfl⟩
    | succ k =>
      have hk' : r[k]? = some q := by simpa using hk
      have e1 : (k + 1) * 3 = k * 3 + 3 := by omega
      rw [e1]
      show ((pcC x) ++ pcV r)[k * 3 + 3]? = _ ∧ ((pcC x) ++ pcV r)[k * 3 + 3 + 1]? = _ ∧ ((pcC x) ++ pcV r)[k * 3 + 3 + 2]? = _
      have := ih hk'
      rw [List.getElem?_append_right (by simp [pcC]), List.getElem?_append_right (by simp [pcC]), List.getElem?_append_right (by simp [pcC])]
      have e2 : k * 3 + 3 - (pcC x).length = k * 3 := by simp [pcC]
      have e3 : k * 3 + 3 + 1 - (pcC x).length = k * 3 + 1 := by simp [pcC]
      have e4 : k * 3 + 3 + 2 - (pcC x).length = k * 3 + 2 := by simp [pcC]
      rw [e2, e3, e4]
      exact this
/-- Its lines are read in every world behind w. -/
def PqR (w : World) (q : Pq) : Prop := ∀ W, Below w.heap.size w W → RdS W q.2.1 q.1.1 ∧ RdS W q.2.2.1 q.1.2.1 ∧ RdS W q.2.2.2 q.1.2.2
def OwnP (w : World) (base : Nat) (v : Value) (qs : List Pq) : Prop := w.ownsRow base 46 3 v qs.length (pcV qs)
theorem OwnP.lt {w : World} {base : Nat} {v : Value} {hs : List Pq} (h : OwnP w base v hs) : ∀ g, v.ownBlock = some g → base ≤ g ∧ g < w.heap.size := by
  intro g hg
  rcases h.2 with ⟨rfl, hn⟩ | ⟨g', cap, cur, rfl, hbg, hg', hnc, hcm, hcs, htake⟩
  · cases hg
  · have : g' = g := by simpa [Value.ownBlock] using hg
    subst this
    exact ⟨hbg, (Array.getElem?_eq_some_iff.1 hg').1⟩
theorem OwnP.far {w w' : World} {base : Nat} {v : Value} {hs : List Pq} (h : OwnP w base v hs) (hb : ∀ g, v.ownBlock = some g → w'.heap[g]? = w.heap[g]?) : OwnP w' base v hs := by
  refine ⟨h.1, ?_⟩
  rcases h.2 with h2 | ⟨g, cap, cur, rfl, hg, hh, r⟩
  · exact Or.inl h2
  · exact Or.inr ⟨g, cap, cur, rfl, hg, by rw [hb g rfl]; exact hh, r⟩
theorem OwnP.mono {base' : Nat} {w : World} {base : Nat} {v : Value} {hs : List Pq} (h : OwnP w base v hs) (hb : base' ≤ base) : OwnP w base' v hs := by
  refine ⟨h.1, ?_⟩
  rcases h.2 with h2 | ⟨g, cap, cur, hv, hg, r⟩
  · exact Or.inl h2
  · exact Or.inr ⟨g, cap, cur, hv, Nat.le_trans hb hg, r⟩
theorem OwnP.form {w : World} {base : Nat} {v : Value} {hs : List Pq} (h : OwnP w base v hs) : ∃ a c, v = .slice a hs.length c := by
  rcases h.2 with ⟨rfl, hn⟩ | ⟨g, cap, cur, rfl, -⟩
  · exact ⟨none, 0, by rw [hn]⟩
  · exact ⟨_, _, rfl⟩
/-- The cells of one piece. -/
theorem OwnP.row {w : World} {base : Nat} {v : Value} {qs : List Pq} (h : OwnP w base v qs) {k : Nat} {q : Pq} (hk : qs[k]? = some q) : ∃ g cap, v = .slice (some ⟨g, 0, none⟩) qs.length cap ∧ base ≤ g ∧ g < w.heap.size ∧ ∀ W : World, W.heap[g]? = w.heap[g]? → W.rangeAt g (k * 3) [q.2.1, q.2.2.1, q.2.2.2] := by
  rcases h.2 with ⟨rfl, hn⟩ | ⟨g, cap, cur, rfl, hbg, hg', hnc, hcm, hcs, htake⟩
  · have := (List.getElem?_eq_some_iff.1 hk).1; omega
  · refine ⟨g, cap, rfl, hbg, (Array.getElem?_eq_some_iff.1 hg').1, fun W hW => ?_⟩
    rw [hg'] at hW
    obtain ⟨c0, c1, c2⟩ := pcV_get hk
    have hc : ∀ j u, (pcV qs)[j]? = some u → W.cell? ⟨g, j, none⟩ = some u := fun j u hu => by
      rw [cell_of_row _ _ j _ _ (0, 0) hW]
      have h1 : (cur.toList.take (qs.length * 3))[j]? = some u := by rw [htake]; exact hu
      rw [List.getElem?_take] at h1
      split at h1
      · simpa using h1
      · cases h1
    intro j u hu
    match j, hu with
    | 0, hu => simp at hu; subst hu; exact hc _ _ c0
    | 1, hu => simp at hu; subst hu; exact hc _ _ c1
    | 2, hu => simp at hu; subst hu; exact hc _ _ c2
set_option maxRecDepth 100000 in
theorem info_pc : ∃ i z, Try.prog.info? 46 = some i ∧ i.zero = some z ∧ i.size = 3 ∧ i.bytes = 72 ∧ z.cells.size = 3 := by
  refine ⟨_, _, rfl, rfl, rfl, rfl, rfl⟩
set_option maxRecDepth 100000 in
/-- A slice of lines cut out of another one. -/
theorem sub_lh {pa : Option Addr} {pc : Nat} {L : List ByteArray} {lo hi : Nat} (h1 : lo ≤ hi) (h2 : hi ≤ L.length) (h3 : L.length ≤ pc) : ∃ a c, (∀ W : World, (Instr.sliceAt 33 (.slice pa L.length pc) (some (.int .i64 lo)) (some (.int .i64 hi)) none).run Try.prog W = .ok (.slice a (hi - lo) c) W) ∧ ∀ W, RdS W (.slice pa L.length pc) L → RdS W (.slice a (hi - lo) c) (sg L lo hi) := by
  refine ⟨if pc = lo then pa else pa.map (·.add lo), pc - lo, fun W => ?_, fun W h => ?_⟩
  · have hs : (sizeOf (Try.prog.elem 33)).run Try.prog W = .ok 1 W := rfl
    rw [run_sliceAt_slice (P := Try.prog) W 33 _ _ _ _ Try.underlying33, run_slice_lh (P := Try.prog) W 33 pa L.length pc Try.underlying33 .i64 .i64 lo hi (by omega) (by omega) (by omega), hs]
    simp [sliced, Result.andThen]
  · obtain ⟨p', c', he, hle, hr⟩ := h
    rw [List.length_map] at he hle hr
    injection he with e1 e2 e3
    subst e1 e3
    have hlen : ((sg L lo hi).map Value.string).length = hi - lo := by unfold sg; rw [List.length_map, List.length_take, List.length_drop]; omega
    refine ⟨_, pc - lo, by rw [hlen], by rw [hlen]; omega, fun h0 => ?_⟩
    rw [hlen] at h0
    obtain ⟨b, off, rfl, hlt, hrow⟩ := hr (by omega)
    refine ⟨b, off + lo, by rw [if_neg (by omega), Option.map_some, add_plain], hlt, fun j u hu => ?_⟩
    rw [Nat.add_assoc]
    refine hrow (lo + j) u ?_
    unfold sg at hu
    rw [List.getElem?_map] at hu ⊢
    rw [List.getElem?_take] at hu
    split at hu
    · rw [List.getElem?_drop] at hu
      exact hu
    · cases hu
set_option maxRecDepth 100000 in
theorem sub_l {pa : Option Addr} {pc : Nat} {L : List ByteArray} {lo : Nat} (h1 : lo ≤ L.length) (h3 : L.length ≤ pc) : ∃ a c, (∀ W : World, (Instr.sliceAt 33 (.slice pa L.length pc) (some (.int .i64 lo)) none none).run Try.prog W = .ok (.slice a (L.length - lo) c) W) ∧ ∀ W, RdS W (.slice pa L.length pc) L → RdS W (.slice a (L.length - lo) c) (L.drop lo) := by
  obtain ⟨a, c, hr, hd⟩ := sub_lh (pa := pa) (pc := pc) (L := L) (lo := lo) (hi := L.length) h1 (Nat.le_refl _) h3
  refine ⟨a, c, fun W => ?_, fun W h => ?_⟩
  · have h := hr W
    have hs : (sizeOf (Try.prog.elem 33)).run Try.prog W = .ok 1 W := rfl
    rw [run_sliceAt_slice (P := Try.prog) W 33 _ _ _ _ Try.underlying33, run_slice_lh (P := Try.prog) W 33 pa L.length pc Try.underlying33 .i64 .i64 lo L.length (by omega) (by omega) (by omega), hs] at h
    rw [run_sliceAt_slice (P := Try.prog) W 33 _ _ _ _ Try.underlying33, run_slice_l (P := Try.prog) W 33 pa L.length pc Try.underlying33 .i64 lo (by omega) (by omega), hs]
    rw [← h]
    simp [Result.andThen]
  · have h := hd W h
    unfold sg at h
    rwa [List.take_of_length_le (by rw [List.length_drop]; omega)] at h
section
variable {P : Program} {ops : Array Oper} {C : World → Prop} {Q : Act → Prop} {a : Act} {o : Oper} {rest : List Oper}
/-- In a quiet walk: a slice cut, by its run. -/
theorem wpQuiet_slice (t : TypeId) (x : Operand) (lo hi : Option Operand) (v : Value) (hg : o.guard = none) (ho : o.op = .slice t x lo hi none) (hr : ∀ W, (Instr.sliceAt t (a.eval x) (lo.map a.eval) (hi.map a.eval) none).run P W = .ok v W) (h : wpQuiet P ops C Q rest (a.put o.dst v)) : wpQuiet P ops C Q (o :: rest) a := by
  refine wpQuiet_step fun K hK => ?_
  rw [if_pos (by simp [Region.wanted, hg])]
  refine ⟨v, fun W _ => ?_, hK _ h⟩
  unfold Oper.quietAt execOp
  simp only [ho, Sem.run_bind, Option.map_none]
  rw [hr W]
  exact ⟨rfl, rfl⟩
end
section
variable {P : Program} {Q : Exit → Act → World → Prop} {o : Oper} {rest : List Oper} {a : Act} (w : World)
theorem wpTail_append_at (s x : Operand) (t : TypeId)
    (ho : o.op = .call { callee := .builtin .append, args := #[s, x], argTypes := #[t, t] })
    (base : Nat) (e : TypeId) (i : TypeInfo) (z : Value) (size bytes : Nat) (ht : P.underlying t = some (.slice e)) (hi : P.info? e = some i) (hz : i.zero = some z)
    (hsize : i.size = size) (hby : i.bytes = bytes) (hzs : z.cells.size = size) (hsz : 0 < size)
    (v : Value) (n : Nat) (xs : List Value) (hs : a.eval s = v) (hown : w.ownsRow base e size v n xs)
    (ad : Addr) (m c : Nat) (news : List Value) (hx : a.eval x = .slice (some ad) m c) (hl : news.length = m * size) (hnews : ∀ j u, news[j]? = some u → w.cell? (ad.add j) = some u) (h1 : ∀ u ∈ news, u.oneCell' = true)
    (h63 : n + m ≤ maxLen) (hbytes : (n + m) * bytes ≤ 140737488355328) (hbase : base ≤ w.heap.size)
    (h : ∀ v' w', w'.ownsRow base e size v' (n + m) (xs ++ news) → w.grownBy w' v.ownBlock → wpTail P Q rest (a.put o.dst v') w') :
    wpTail P Q (o :: rest) a w := by
  refine wpTail_step fun K hK => ?_
  obtain ⟨v', w', hr, h2, h3, h4, h5⟩ := run_append_own_at (P := P) w base t o.type e i z size bytes ht hi hz hsize hby hzs hsz v n xs hown ad m c news hl hnews h1 h63 hbytes hbase
  unfold Oper.wp execOp
  simp only [ho, resolve, invoke, builtin, Sem.run_bind, Sem.run_pure, Result.andThen_ok, List.map_toArray, List.map_cons, List.map_nil, hs, hx, hr]
  exact hK _ _ (h v' w' h2 h3)
end
end Go.Proofs.Ytidpdhnbnecddaa
