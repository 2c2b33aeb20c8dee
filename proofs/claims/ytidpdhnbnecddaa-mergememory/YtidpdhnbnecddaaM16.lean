/-
  Pure: what comes of the pieces; how long it is.
-/
import Derived.Test.YtidpdhnbnecddaaM14
import Derived.Test.YtidpdhnbnecddaaM8
import Derived.Test.YtidpdhnbnecddaaM11
import Derived.Test.YtidpdhnbnecddaaN2
namespace Go.Proofs.Ytidpdhnbnecddaa
open Go.RowKit

/-- The lines of a piece in which both changes are made. -/
def setF (p : Pc) : Option (List ByteArray) := if p.2.1 = p.1 then some p.2.2 else if p.2.2 = p.1 then some p.2.1 else if p.2.1 = p.2.2 then some p.2.1 else none
def thF (l0 l1 : ByteArray) : List Int → Nat → List Pc → List Int × Nat
  | T, n, [] => (T, n)
  | T, n, p :: r => match setF p with
    | some L => thF l0 l1 (T ++ jnd L) n r
    | none => thF l0 l1 (clash T l0 l1 p.1 p.2.1 p.2.2) (n + 1) r
theorem thF_some {l0 l1 : ByteArray} {T : List Int} {n : Nat} {p : Pc} {r : List Pc} {L : List ByteArray} (h : setF p = some L) : thF l0 l1 T n (p :: r) = thF l0 l1 (T ++ jnd L) n r := by rw [thF, h]
theorem thF_none {l0 l1 : ByteArray} {T : List Int} {n : Nat} {p : Pc} {r : List Pc} (h : setF p = none) : thF l0 l1 T n (p :: r) = thF l0 l1 (clash T l0 l1 p.1 p.2.1 p.2.2) (n + 1) r := by rw [thF, h]
theorem jnd_size (L : List ByteArray) : (jnd L).length = (L.map ByteArray.size).sum := by
  induction L with
  | nil => rfl
  | cons s L ih =>
    rw [show s :: L = [s] ++ L from rfl, jnd_append, List.length_append, jnd_one, nms_length, ih]
    simp
theorem jnd_lnS (x : List Int) : (jnd (lnS x)).length = x.length := by
  rw [jnd_size, lnS, List.map_map]
  have e : (ByteArray.size ∘ strOfNums) = fun y : List Int => y.length := by
    funext y
    simp [strOfNums, ByteArray.size]
  rw [e]
  have := congrArg List.length (lnsF_join x)
  rw [List.length_flatten] at this
  exact this
theorem jnd_drop (L : List ByteArray) (k : Nat) : (jnd (L.drop k)).length ≤ (jnd L).length := by
  have h := congrArg (fun L => (jnd L).length) (List.take_append_drop k L)
  simp only [jnd_append, List.length_append] at h
  omega
theorem jnd_sg (L : List ByteArray) (lo hi : Nat) : (jnd (sg L lo hi)).length ≤ (jnd L).length := by
  have h1 := jnd_le (L.drop lo) (hi - lo)
  have h2 := jnd_drop L lo
  unfold sg
  omega
theorem sg_len (L : List ByteArray) (lo hi : Nat) : (sg L lo hi).length ≤ L.length := by
  unfold sg
  rw [List.length_take, List.length_drop]
  omega
/-- No part of a piece is longer than the whole. -/
def PcOk (O A B : List ByteArray) (p : Pc) : Prop := (jnd p.1).length ≤ (jnd O).length ∧ (jnd p.2.1).length ≤ (jnd A).length ∧ (jnd p.2.2).length ≤ (jnd B).length ∧ p.1.length ≤ O.length ∧ p.2.1.length ≤ A.length ∧ p.2.2.length ≤ B.length
theorem ctG_ok (O A B : List ByteArray) (X Y : List Int) : ∀ (f x i j k : Nat) (p : Pc), p ∈ ctG O A B X Y f x i j k → PcOk O A B p
  | 0, x, i, j, k, p, h => by
    rw [ctG_zero, List.mem_singleton] at h
    subst h
    exact ⟨jnd_drop _ _, jnd_drop _ _, jnd_drop _ _, by simp, by simp, by simp⟩
  | f + 1, x, i, j, k, p, h => by
    rw [ctG] at h
    split at h
    · exact ctG_ok O A B X Y f _ _ _ _ p h
    · rcases List.mem_cons.1 h with rfl | h
      · exact ⟨jnd_sg _ _ _, jnd_sg _ _ _, jnd_sg _ _ _, sg_len _ _ _, sg_len _ _ _, sg_len _ _ _⟩
      · rcases List.mem_cons.1 h with rfl | h
        · exact ⟨jnd_sg _ _ _, jnd_sg _ _ _, jnd_sg _ _ _, sg_len _ _ _, sg_len _ _ _, sg_len _ _ _⟩
        · exact ctG_ok O A B X Y f _ _ _ _ p h
theorem ctG_len (O A B : List ByteArray) (X Y : List Int) : ∀ (f x i j k : Nat), (ctG O A B X Y f x i j k).length ≤ 2 * f + 1
  | 0, x, i, j, k => by rw [ctG_zero]; simp
  | f + 1, x, i, j, k => by
    rw [ctG]
    split
    · have := ctG_len O A B X Y f (x + 1) i j k
      omega
    · have := ctG_len O A B X Y f (x + 1) (x + 1) ((X.getD x (-1)).toNat + 1) ((Y.getD x (-1)).toNat + 1)
      simp only [List.length_cons]
      omega
theorem setF_len {O A B : List ByteArray} {p : Pc} (h : PcOk O A B p) {L : List ByteArray} (hs : setF p = some L) : (jnd L).length ≤ (jnd A).length + (jnd B).length ∧ L.length ≤ A.length + B.length := by
  obtain ⟨h1, h2, h3, h4, h5, h6⟩ := h
  unfold setF at hs
  split at hs
  · injection hs with hs; subst hs; omega
  · split at hs
    · injection hs with hs; subst hs; omega
    · split at hs
      · injection hs with hs; subst hs; omega
      · cases hs
theorem clash_len (T : List Int) (l0 l1 : ByteArray) (O A B : List ByteArray) : (clash T l0 l1 O A B).length ≤ T.length + (jnd O).length + (jnd A).length + (jnd B).length + l0.size + l1.size + 42 := by
  have s0 : (mkA ++ l0 ++ mkL).size = l0.size + 9 := by rw [size_cat, size_cat]; show 8 + l0.size + 1 = _; omega
  have s1 : (mkZ ++ l1 ++ mkL).size = l1.size + 9 := by rw [size_cat, size_cat]; show 8 + l1.size + 1 = _; omega
  have q1 := (endd_len (cl1 T l0 ++ jnd A)).2
  have q2 := (endd_len (cl3 T l0 A ++ jnd O)).2
  have q3 := (endd_len (cl5 T l0 A O ++ jnd B)).2
  unfold clash cl6
  rw [List.length_append, nms_length, s1]
  rw [List.length_append] at q1 q2 q3
  have e5 : (cl5 T l0 A O).length = (cl4 T l0 A O).length + 8 := by unfold cl5; rw [List.length_append, nms_length]; rfl
  have e3 : (cl3 T l0 A).length = (cl2 T l0 A).length + 13 := by unfold cl3; rw [List.length_append, nms_length]; rfl
  have e1 : (cl1 T l0).length = T.length + (l0.size + 9) := by unfold cl1; rw [List.length_append, nms_length, s0]
  have e4 : cl4 T l0 A O = endd (cl3 T l0 A ++ jnd O) := rfl
  have e2 : cl2 T l0 A = endd (cl1 T l0 ++ jnd A) := rfl
  rw [← e4] at q2
  rw [← e2] at q1
  omega
/-- What Three answers: the text, how many clash, the error. -/
def th3 (l0 l1 : ByteArray) (x y z : List Int) (E : Int) : List Int × Int × Int :=
  if E ≠ 0 then ([], 0, E) else
    let r := thF l0 l1 [] 0 (cutP (lnS x) (lnS y) (lnS z))
    if 1048576 < r.1.length then ([], 0, 2) else (r.1, r.2, 0)


theorem run_store_sl (w : World) (a : Addr) (p : Option Addr) (n c : Nat) (u : Value) (h : w.cell? a = some u) (hf : w.frozen? a = false) : (store a (.slice p n c)).run Try.prog w = .ok () (w.setCell a (.slice p n c)) := by
  rw [run_store Try.prog w a _ _ rfl]
  simp [h, hf]
/-- Where Three's loop stands. -/
structure ThSt (w5 wr : World) (tv : Value) (T : List Int) (k n : Nat) : Prop where
  own : Own .u8 5 wr w5.heap.size tv T
  bel : Below w5.heap.size w5 wr
  len : T.length ≤ 4000000 * k
  cnt : n ≤ k
set_option maxRecDepth 100000 in
theorem info_pc3 : (Try.prog.info? 46).map (·.size) = some 3 := by kernel_rfl
set_option maxRecDepth 100000 in
theorem info_lb2 : (Try.prog.info? 23).map (·.size) = some 2 := by kernel_rfl
theorem settV_some {a b : Value} {p : Pc} {L : List ByteArray} (h : setF p = some L) : ∃ v, settV a b p.1 p.2.1 p.2.2 = .tuple #[v, .bool true] ∧ ((v = b ∧ L = p.2.2) ∨ (v = a ∧ L = p.2.1)) := by
  unfold setF at h
  unfold settV
  split at h
  · rename_i e
    injection h with h
    exact ⟨b, by rw [if_pos e], .inl ⟨rfl, h.symm⟩⟩
  · rename_i e
    rw [if_neg e]
    split at h
    · rename_i e2
      injection h with h
      exact ⟨a, by rw [if_pos e2], .inr ⟨rfl, h.symm⟩⟩
    · rename_i e2
      rw [if_neg e2]
      split at h
      · rename_i e3
        injection h with h
        exact ⟨a, by rw [if_pos e3], .inr ⟨rfl, h.symm⟩⟩
      · cases h
theorem settV_none {a b : Value} {p : Pc} (h : setF p = none) : settV a b p.1 p.2.1 p.2.2 = .tuple #[.slice none 0 0, .bool false] := by
  unfold setF at h
  unfold settV
  split at h
  · cases h
  · rename_i e
    rw [if_neg e]
    split at h
    · cases h
    · rename_i e2
      rw [if_neg e2]
      split at h
      · cases h
      · rename_i e3
        rw [if_neg e3]
theorem rfE_zero {R : List (Value × List Int)} {l0 l1 : ByteArray} {c0 c1 : Bool} (h : rfE R l0 l1 c0 c1 = 0) : R.any (fun r => bigT r.2) = false ∧ l0.size ≤ 100 ∧ l1.size ≤ 100 := by
  unfold rfE at h
  split at h
  · cases h
  · rename_i e
    split at h
    · cases h
    · rename_i e2
      split at h
      · cases h
      · rename_i e3
        refine ⟨by simpa using e, ?_, ?_⟩
        · unfold badL at e2; simp at e2; omega
        · unfold badL at e3; simp at e3; omega
theorem bigT_no {x : List Int} (h : bigT x = false) : x.length ≤ 1048576 ∧ (lnS x).length ≤ 1000 := by
  unfold bigT at h
  simp at h
  omega
theorem mem_le_sum : ∀ {l : List Nat} {a : Nat}, a ∈ l → a ≤ l.sum
  | x :: l, a, h => by
    rcases List.mem_cons.1 h with rfl | h
    · simp
    · have := mem_le_sum h
      simp
      omega
theorem lnS_size {x : List Int} {s : ByteArray} (h : s ∈ lnS x) : s.size ≤ x.length := by
  have h1 := jnd_lnS x
  rw [jnd_size] at h1
  have := mem_le_sum (List.mem_map_of_mem (f := ByteArray.size) h)
  omega
theorem cell3_new {W w : World} {x y z : Value} {T : TypeId} (h : Below (w.alloc (.cells #[x, y, z] T)).heap.size (w.alloc (.cells #[x, y, z] T)) W) : W.rangeAt w.heap.size 0 [x, y, z] := by
  obtain ⟨c0, c1, c2⟩ := box3 h
  intro j u hu
  match j, hu with
  | 0, hu => simp at hu; subst hu; exact c0
  | 1, hu => simp at hu; subst hu; exact c1
  | 2, hu => simp at hu; subst hu; exact c2
/-- What Three leaves. -/
def ThE (w : World) (R : List Int × Int × Int) (e : Ending) (w' : World) : Prop := ∃ v, e = .returned (.tuple #[v, .int .i64 R.2.1, .int .i64 R.2.2]) ∧ Own .u8 5 w' w.heap.size v R.1 ∧ Below w.heap.size w w'
theorem PqR.rdB {w4 w5 w7 : World} {q : Pq} (h : PqR w4 q) (h5 : Below w4.heap.size w4 w5) (h7 : Below w5.heap.size w5 w7) : RdB w5.heap.size w7 q.2.1 q.1.1 ∧ RdB w5.heap.size w7 q.2.2.1 q.1.2.1 ∧ RdB w5.heap.size w7 q.2.2.2 q.1.2.2 := by
  have hB : ∀ W, Below w5.heap.size w7 W → Below w4.heap.size w4 W := fun W hW => h5.trans ((h7.trans hW).mono h5.size)
  exact ⟨⟨h7.size, fun W hW => (h W (hB W hW)).1⟩, ⟨h7.size, fun W hW => (h W (hB W hW)).2.1⟩, ⟨h7.size, fun W hW => (h W (hB W hW)).2.2⟩⟩
theorem below_two {wa wb wc : World} {n : Nat} (h0 : wa.heap.size = n) (h : Below n wa wb) (h2 : Below wb.heap.size wb wc) : Below n wa wc := h.trans (h2.mono (by have := h.size; omega))
set_option maxHeartbeats 4000000 in
set_option maxRecDepth 100000 in
theorem three_any (v0 v1 v2 : Value) (x0 x1 x2 : List Int) (l0 l1 : ByteArray) (c0 c1 : Bool) (w : World) (h0 : Rd .u8 anyB w v0 x0) (h1 : Rd .u8 anyB w v1 x1) (h2 : Rd .u8 anyB w v2 x2) (a0 : AllB x0) (a1 : AllB x1) (a2 : AllB x2) (g0 : HasC l0 c0) (g1 : HasC l1 c1) :
    Calls Try.prog 11 #[v0, v1, v2, .agg #[.string l0, .string l1]] w fun e w' => ThE w (th3 l0 l1 x0 x1 x2 (rfE [(v0, x0), (v1, x1), (v2, x2)] l0 l1 c0 c1)) e w' := by
  have K0 := Kept.mk h0
  have K1 := Kept.mk h1
  have K2 := Kept.mk h2
  have KA0 := Kept.mk a0
  have KA1 := Kept.mk a1
  have KA2 := Kept.mk a2
  have KBa := Kept.mk ((Below.refl w.heap.size w).alloc (Nat.le_refl _) (.cells #[.string l0, .string l1] 23))
  have KBb := Kept.mk (KBa.out.alloc KBa.out.size (.cells #[v0, v1, v2] 22))
  have hsz : (w.alloc (.cells #[.string l0, .string l1] 23)).heap.size = w.heap.size + 1 := by simp
  have href := refuses_any l0 l1 c0 c1 (w.alloc (.cells #[.string l0, .string l1] 23)).heap.size [(v0, x0), (v1, x1), (v2, x2)] ((w.alloc (.cells #[.string l0, .string l1] 23)).alloc (.cells #[v0, v1, v2] 22)) rfl (by
    intro k r hr
    obtain ⟨q0, q1, q2⟩ := box3 (x := v0) (y := v1) (z := v2) (T := 22) (Below.refl _ ((w.alloc (.cells #[.string l0, .string l1] 23)).alloc (.cells #[v0, v1, v2] 22)))
    match k, hr with
    | 0, hr => simp at hr; subst hr; exact ⟨q0, K0.out.later KBb.out (Nat.le_refl _), KA0.out⟩
    | 1, hr => simp at hr; subst hr; exact ⟨q1, K1.out.later KBb.out (Nat.le_refl _), KA1.out⟩
    | 2, hr => simp at hr; subst hr; exact ⟨q2, K2.out.later KBb.out (Nat.le_refl _), KA2.out⟩) g0 g1
  have Ksz := Kept.mk hsz
  rw [hsz] at href
  have Kref := Kept.mk href
  have Krz : Kept (rfE [(v0, x0), (v1, x1), (v2, x2)] l0 l1 c0 c1 = 0 → x0.length ≤ 1048576 ∧ x1.length ≤ 1048576 ∧ x2.length ≤ 1048576 ∧ (lnS x0).length ≤ 1000 ∧ (lnS x1).length ≤ 1000 ∧ (lnS x2).length ≤ 1000 ∧ l0.size ≤ 100 ∧ l1.size ≤ 100) := ⟨fun h => by
    obtain ⟨h1, h2, h3⟩ := rfE_zero h
    simp only [List.any_cons, List.any_nil, Bool.or_false, Bool.or_eq_false_iff] at h1
    have := bigT_no h1.1
    have := bigT_no h1.2.1
    have := bigT_no h1.2.2
    omega⟩
  obtain ⟨b0, b1⟩ := box2 (w := w) (x := .string l0) (y := .string l1) (T := 23)
  have Klb : Kept (∀ W, Below (w.heap.size + 1) (w.alloc (.cells #[.string l0, .string l1] 23)) W → W.rangeAt w.heap.size 0 [.string l0, .string l1]) := ⟨fun W hW j u hu => by
    match j, hu with
    | 0, hu => simp at hu; subst hu; rw [hW.cell (by simp)]; exact b0
    | 1, hu => simp at hu; subst hu; rw [hW.cell (by simp)]; exact b1⟩
  have Kl0 := Kept.mk (Klb.out _ (Below.refl _ _))
  have Kbx := Kept.mk ((Below.refl (w.heap.size + 1) (w.alloc (.cells #[.string l0, .string l1] 23))).alloc (by simp) (.cells #[v0, v1, v2] 22))
  generalize rfE _ l0 l1 c0 c1 = E at *
  obtain ⟨pa, ca, rfl, -⟩ := h0.form
  obtain ⟨pb, cb, rfl, -⟩ := h1.form
  obtain ⟨pd, cd, rfl, -⟩ := h2.form
  clear h0 h1 h2 a0 a1 a2 g0 g1 b0 b1 href hsz
  go_enter Try.func11, Try.ntmps11
  go_wp2_with (refine wpList_load_mid rfl 23 _ rfl w.heap.size 0 rfl [.string l0, .string l1] _ Kl0.out Try.underlying23 rfl info_lb2 ?_)
  refine Calls.mono Kref.out (fun e w1 hp => ?_)
  obtain ⟨rfl, hb1⟩ := hp
  have KB1 := Kept.mk (KBb.out.trans (hb1.mono KBb.out.size))
  have Kx1 := Kept.mk (below_two Ksz.out Kbx.out hb1)
  clear Kref hb1 KBb KBa Kbx Kl0
  by_cases hE : E = 0
  · subst hE
    obtain ⟨z0, z1, z2, y0, y1, y2, s0, s1⟩ := Krz.out rfl
    have Kz : Kept (x0.length ≤ 1048576 ∧ x1.length ≤ 1048576 ∧ x2.length ≤ 1048576 ∧ (lnS x0).length ≤ 1000 ∧ (lnS x1).length ≤ 1000 ∧ (lnS x2).length ≤ 1000 ∧ l0.size ≤ 100 ∧ l1.size ≤ 100) := ⟨Krz.out rfl⟩
    clear Krz
    have KL0 := Kept.mk (lines_any _ x0 w1 (K0.out.later KB1.out (Nat.le_refl _)) KA0.out (by omega))
    clear z0 z1 z2 y0 y1 y2 s0 s1
    go_wp2_with fail
    refine Calls.mono KL0.out (fun e w2 hp => ?_)
    obtain ⟨q0, rfl, ho0, hb2⟩ := hp
    have KB2 := Kept.mk (KB1.out.trans (hb2.mono KB1.out.size))
    have KO0 := Kept.mk ho0
    have Kx2 := Kept.mk (below_two Ksz.out Kx1.out hb2)
    have KL1 := Kept.mk (lines_any _ x1 w2 (K1.out.later KB2.out (Nat.le_refl _)) KA1.out (by have := Kz.out; omega))
    clear ho0 hb2 KL0 KB1 Kx1
    go_wp2_with fail
    refine Calls.mono KL1.out (fun e w3 hp => ?_)
    obtain ⟨q1, rfl, ho1, hb3⟩ := hp
    have KB3 := Kept.mk (KB2.out.trans (hb3.mono KB2.out.size))
    have KO0 := Kept.mk (KO0.out.later hb3 (Nat.le_refl _))
    have KO1 := Kept.mk ho1
    have Kx3 := Kept.mk (below_two Ksz.out Kx2.out hb3)
    have KL2 := Kept.mk (lines_any _ x2 w3 (K2.out.later KB3.out (Nat.le_refl _)) KA2.out (by have := Kz.out; omega))
    clear ho1 hb3 KL1 KB2 Kx2
    go_wp2_with fail
    refine Calls.mono KL2.out (fun e w4 hp => ?_)
    obtain ⟨q2, rfl, ho2, hb4⟩ := hp
    have KB4 := Kept.mk (KB3.out.trans (hb4.mono KB3.out.size))
    have KO0 := Kept.mk (KO0.out.later hb4 (Nat.le_refl _))
    have KO1 := Kept.mk (KO1.out.later hb4 (Nat.le_refl _))
    have KO2 := Kept.mk ho2
    have Kx4 := Kept.mk (below_two Ksz.out Kx3.out hb4)
    have KCt := Kept.mk (cut_any q0 q1 q2 (lnS x0) (lnS x1) (lnS x2) w4 (fun W hW => (KO0.out.later hW (Nat.le_refl _)).rd) (fun W hW => (KO1.out.later hW (Nat.le_refl _)).rd) (fun W hW => (KO2.out.later hW (Nat.le_refl _)).rd)
      (fun s hs => by have := lnS_size hs; have := Kz.out; unfold maxLen; omega) (fun s hs => by have := lnS_size hs; have := Kz.out; unfold maxLen; omega) (fun s hs => by have := lnS_size hs; have := Kz.out; unfold maxLen; omega) Kz.out.2.2.2.1 Kz.out.2.2.2.2.1 Kz.out.2.2.2.2.2.1)
    clear ho2 hb4 KL2 KB3 Kx3 KO0 KO1 KO2
    go_wp2_with fail
    refine Calls.mono KCt.out (fun e w5 hp => ?_)
    obtain ⟨pv, rfl, qs, hown, hmap, hrd, hb5⟩ := hp
    have KB5 := Kept.mk (KB4.out.trans (hb5.mono KB4.out.size))
    have Kx5 := Kept.mk (below_two Ksz.out Kx4.out hb5)
    have Kb5 := Kept.mk hb5
    have Kown := Kept.mk hown
    have Krd := Kept.mk hrd
    have hql : qs.length ≤ 2001 := by
      have h := congrArg List.length hmap
      rw [List.length_map] at h
      have h2 := ctG_len (lnS x0) (lnS x1) (lnS x2) (plP (lnS x0) (lnS x1)) (plP (lnS x0) (lnS x2)) (lnS x0).length 0 0 0 0
      have h3 : (cutP (lnS x0) (lnS x1) (lnS x2)).length ≤ 2 * (lnS x0).length + 1 := h2
      have := Kz.out
      omega
    have Kok : Kept (∀ q ∈ qs, (jnd q.1.1).length ≤ 1048576 ∧ (jnd q.1.2.1).length ≤ 1048576 ∧ (jnd q.1.2.2).length ≤ 1048576 ∧ q.1.1.length ≤ 1000 ∧ q.1.2.1.length ≤ 1000 ∧ q.1.2.2.length ≤ 1000) := ⟨fun q hq => by
      have hm : q.1 ∈ cutP (lnS x0) (lnS x1) (lnS x2) := by rw [← hmap]; exact List.mem_map_of_mem hq
      obtain ⟨h1, h2, h3, h4, h5, h6⟩ := ctG_ok _ _ _ _ _ _ _ _ _ _ _ hm
      rw [jnd_lnS] at h1 h2 h3
      have := Kz.out
      omega⟩
    obtain ⟨RR, hRR⟩ : ∃ RR, thF l0 l1 [] 0 (cutP (lnS x0) (lnS x1) (lnS x2)) = RR := ⟨_, rfl⟩
    have KRR := Kept.mk hRR
    have K00 : Kept (thF l0 l1 [] 0 ((qs.map (·.1)).drop 0) = RR) := ⟨by rw [List.drop_zero, hmap]; exact hRR⟩
    have Kn0 : Kept (ThSt w5 w5 (.slice none 0 0) [] 0 0) := ⟨⟨Own.nil _ _ _ _, Below.refl _ _, Nat.zero_le _, Nat.le_refl _⟩⟩
    obtain ⟨va, vc, hfm⟩ := hown.form
    rw [hfm] at Kown
    rw [hfm]
    clear hown hmap hrd hb5 hRR KB4 Kx4 KCt hfm KA0 KA1 KA2 K0 K1 K2
    go_upto_region 7 with fail
    go_loopw [12, 13, 35] (fun tv nv iv wr => ∃ (k n : Nat) (T : List Int), k ≤ qs.length ∧ iv = .int .i64 k ∧ nv = .int .i64 n ∧ thF l0 l1 T n ((qs.map (·.1)).drop k) = RR ∧ ThSt w5 wr tv T k n) (fun _ _ iv _ => qs.length - (intOf iv).toNat)
    case atStart => exact ⟨0, 0, [], Nat.zero_le _, rfl, rfl, K00.out, Kn0.out⟩
    case round =>
      obtain ⟨k, n, T, hk, rfl, rfl, hth, hst⟩ := hrel
      have KS := Kept.mk hst
      have Kth := Kept.mk hth
      obtain ⟨ta, tc, htv, -⟩ := hst.own.rd.form
      rw [htv] at KS
      rw [htv]
      have hTl := hst.len
      have hnk := hst.cnt
      clear K00 Kn0 hth hst htv
      by_cases hlt : k < qs.length
      · have hki : (k : Int) < (qs.length : Int) := by omega
        have n0 : (0 : Int) ≤ (k : Int) := by omega
        have e1 : IntKind.i64.wrap ((k : Int) + 1) = (k : Int) + 1 := wr64 (by omega) (by omega)
        have e2 : IntKind.i64.wrap ((n : Int) + 1) = (n : Int) + 1 := wr64 (by omega) (by omega)
        obtain ⟨q, hq⟩ : ∃ q, qs[k]? = some q := ⟨_, List.getElem?_eq_getElem hlt⟩
        have hqm := List.mem_of_getElem? hq
        obtain ⟨g, cap, hv, hg1, hg2, hrow⟩ := Kown.out.row hq
        have hva : va = some ⟨g, 0, none⟩ := by injection hv
        subst hva
        have hdr : (qs.map (·.1)).drop k = q.1 :: (qs.map (·.1)).drop (k + 1) := by
          have hl' : k < (qs.map (·.1)).length := by rw [List.length_map]; exact hlt
          rw [List.drop_eq_getElem_cons hl', List.getElem_map]
          obtain ⟨h1, h2⟩ := List.getElem?_eq_some_iff.1 hq
          rw [h2]
        rw [hdr] at Kth
        have hR := hrow wr (KS.out.bel.block g hg2)
        have hbd := Kok.out q hqm
        have KQ := Kept.mk (Krd.out q hqm)
        obtain ⟨⟨O', A', B'⟩, ⟨o, a, b⟩⟩ := q
        simp only at hR hbd
        have hf := KQ.out w5 Kb5.out
        simp only at hf
        obtain ⟨po, co, rfl⟩ := hf.1.form
        obtain ⟨pa', ca', rfl⟩ := hf.2.1.form
        obtain ⟨pb', cb', rfl⟩ := hf.2.2.form
        have KR := Kept.mk hR
        have Kbd := Kept.mk hbd
        have hbel := KS.out.bel
        have hb6 := hbel.alloc hbel.size (.cells #[.slice po O'.length co, .slice pa' A'.length ca', .slice pb' B'.length cb'] 46)
        have hbr := (Below.refl wr.heap.size wr).alloc (Nat.le_refl _) (.cells #[.slice po O'.length co, .slice pa' A'.length ca', .slice pb' B'.length cb'] 46)
        have hR6 : ∀ W, Below (wr.alloc (.cells #[.slice po O'.length co, .slice pa' A'.length ca', .slice pb' B'.length cb'] 46)).heap.size (wr.alloc (.cells #[.slice po O'.length co, .slice pa' A'.length ca', .slice pb' B'.length cb'] 46)) W → W.rangeAt wr.heap.size 0 [.slice po O'.length co, .slice pa' A'.length ca', .slice pb' B'.length cb'] := fun W hW => cell3_new hW
        obtain ⟨w6, hw6⟩ : ∃ x, wr.alloc (.cells #[.slice po O'.length co, .slice pa' A'.length ca', .slice pb' B'.length cb'] 46) = x := ⟨_, rfl⟩
        rw [hw6] at hb6 hbr hR6
        have Kw6 := Kept.mk hw6
        have KB6 := Kept.mk hb6
        have KR6 := Kept.mk (hR6 w6 (Below.refl _ _))
        have KR67 := Kept.mk hR6
        have KO6 := Kept.mk (KS.out.own.later hbr (Nat.le_refl _))
        have KQ6 := Kept.mk (KQ.out.rdB Kb5.out KB6.out)
        have K7 := Kept.mk (settle_any (.slice po O'.length co) (.slice pa' A'.length ca') (.slice pb' B'.length cb') O' A' B' w6 KQ6.out.1.rd KQ6.out.2.1.rd KQ6.out.2.2.rd (by have := Kbd.out; omega) (by have := Kbd.out; omega))
        clear hb6 hbr hR6 hw6 hf hbd hR hrow hdr hq hqm hg1 hg2 hv hbel KQ6
        go_upto_region 9 with (refine wpList_load_mid rfl 46 _ rfl g (k * 3) rfl [.slice po O'.length co, .slice pa' A'.length ca', .slice pb' B'.length cb'] _ KR.out Try.underlying46 rfl info_pc3 ?_)
        rw [Kw6.out]
        go_wp2_with (first | refine wpList_load_mid rfl 46 _ rfl g (k * 3) rfl [.slice po O'.length co, .slice pa' A'.length ca', .slice pb' B'.length cb'] _ KR.out Try.underlying46 rfl info_pc3 ?_ | refine wpList_load_mid rfl 46 _ rfl wr.heap.size 0 rfl [.slice po O'.length co, .slice pa' A'.length ca', .slice pb' B'.length cb'] _ KR6.out Try.underlying46 rfl info_pc3 ?_)
        refine Calls.mono K7.out (fun e w7 hp => ?_)
        obtain ⟨rfl, hb7⟩ := hp
        have KB7 := Kept.mk (KB6.out.trans (hb7.mono KB6.out.size))
        have KO7 := Kept.mk (KO6.out.later hb7 (Nat.le_refl _))
        have KQ7 := Kept.mk (KQ.out.rdB Kb5.out KB7.out)
        have KR7 := Kept.mk (KR67.out w7 hb7)
        have Kl7 := Kept.mk (Klb.out w7 (below_two Ksz.out Kx5.out KB7.out))
        clear K7 hb7 KR67 KO6 KR6 KR KB6 Kw6
        cases hset : setF (O', A', B') with
        | some L =>
          obtain ⟨sv, hsv, hor⟩ := settV_some (a := .slice pa' A'.length ca') (b := .slice pb' B'.length cb') hset
          simp only at hsv hor
          rw [hsv]
          have KL : Kept (RdB w5.heap.size w7 sv L) := ⟨by
            rcases hor with ⟨rfl, rfl⟩ | ⟨rfl, rfl⟩
            · exact KQ7.out.2.2
            · exact KQ7.out.2.1⟩
          have KLl : Kept ((jnd L).length ≤ 1048576 ∧ L.length ≤ 1000) := ⟨by
            have := Kbd.out
            rcases hor with ⟨rfl, rfl⟩ | ⟨rfl, rfl⟩
            · omega
            · omega⟩
          have Kth2 : Kept (thF l0 l1 (T ++ jnd L) n ((qs.map (·.1)).drop (k + 1)) = RR) := ⟨by rw [← thF_some hset]; exact Kth.out⟩
          obtain ⟨sa, sc, rfl⟩ := KL.out.rd.form
          have K8 := Kept.mk (appendLines_any _ _ T L w7 w5.heap.size KO7.out KL.out (by have := KLl.out; omega) (by have := KLl.out; omega))
          clear hset hsv hor Kth
          go_wp2_with fail
          refine Calls.mono K8.out (fun e w8 hp => ?_)
          obtain ⟨v8, rfl, ho8, hg8⟩ := hp
          have KS8 : Kept (ThSt w5 w8 v8 (T ++ jnd L) (k + 1) n) := ⟨⟨ho8, KB7.out.trans (hg8.below KB7.out.size (fun g hg => (KO7.out.lt g hg).1)), by rw [List.length_append]; have := KLl.out; omega, by omega⟩⟩
          clear K8 ho8 hg8
          go_wp2
          go_roundw
          case rel => exact ⟨k + 1, n, _, hlt, by go_num, rfl, Kth2.out, KS8.out⟩
          case measure => simp [intOf]; omega
        | none =>
          have hsv := settV_none (a := .slice pa' A'.length ca') (b := .slice pb' B'.length cb') hset
          simp only at hsv
          rw [hsv]
          have Kth2 : Kept (thF l0 l1 (clash T l0 l1 O' A' B') (n + 1) ((qs.map (·.1)).drop (k + 1)) = RR) := ⟨by rw [← thF_none hset]; exact Kth.out⟩
          have K8 := Kept.mk (appendClash_any _ _ _ _ l0 l1 T O' A' B' w7 w5.heap.size KO7.out KQ7.out.1 KQ7.out.2.1 KQ7.out.2.2 (by have := Kz.out; omega) (by have := Kz.out; omega) (by have := Kbd.out; omega) (by have := Kbd.out; omega) (by have := Kbd.out; omega) (by have := Kbd.out; omega))
          have Kcl := Kept.mk (clash_len T l0 l1 O' A' B')
          clear hset hsv Kth
          go_wp2_with (first | refine wpList_load_mid rfl 46 _ rfl wr.heap.size 0 rfl [.slice po O'.length co, .slice pa' A'.length ca', .slice pb' B'.length cb'] _ KR7.out Try.underlying46 rfl info_pc3 ?_ | refine wpList_load_mid rfl 23 _ rfl w.heap.size 0 rfl [.string l0, .string l1] _ Kl7.out Try.underlying23 rfl info_lb2 ?_)
          refine Calls.mono K8.out (fun e w8 hp => ?_)
          obtain ⟨v8, rfl, ho8, hg8⟩ := hp
          have KS8 : Kept (ThSt w5 w8 v8 (clash T l0 l1 O' A' B') (k + 1) (n + 1)) := ⟨⟨ho8, KB7.out.trans (hg8.below KB7.out.size (fun g hg => (KO7.out.lt g hg).1)), by have := Kcl.out; have := Kbd.out; have := Kz.out; omega, by omega⟩⟩
          clear K8 ho8 hg8
          go_wp2
          go_roundw
          case rel => exact ⟨k + 1, n + 1, _, hlt, by go_num, by go_num, Kth2.out, KS8.out⟩
          case measure => simp [intOf]; omega
      · have hke : k = qs.length := by omega
        subst hke
        have hki : ¬ (qs.length : Int) < (qs.length : Int) := by omega
        have KRe : Kept (RR = (T, n)) := ⟨by have h := Kth.out; rw [List.drop_of_length_le (by rw [List.length_map]; omega)] at h; exact h.symm⟩
        have KBf := Kept.mk (KB5.out.trans (KS.out.bel.mono KB5.out.size))
        have KOf := Kept.mk (KS.out.own.mono KB5.out.size)
        by_cases hlong : 1048576 < T.length
        · have hli : (1048576 : Int) < (T.length : Int) := by omega
          have KR3 : Kept (th3 l0 l1 x0 x1 x2 0 = ([], 0, 2)) := ⟨by unfold th3; rw [if_neg (by simp), KRR.out, KRe.out]; simp only; rw [if_pos hlong]⟩
          go_wp2
          go_ret3
          exact ⟨_, by rw [KR3.out]; rfl, by rw [KR3.out]; exact Own.nil _ _ _ _, KBf.out⟩
        · have hli : ¬ (1048576 : Int) < (T.length : Int) := by omega
          have KR3 : Kept (th3 l0 l1 x0 x1 x2 0 = (T, (n : Int), 0)) := ⟨by unfold th3; rw [if_neg (by simp), KRR.out, KRe.out]; simp only; rw [if_neg hlong]⟩
          go_wp2
          go_ret3
          exact ⟨_, by rw [KR3.out]; rfl, by rw [KR3.out]; exact KOf.out, KBf.out⟩
  · have hne : (E != 0) = true := by simpa using hE
    have KR : Kept (th3 l0 l1 x0 x1 x2 E = ([], 0, E)) := ⟨by unfold th3; rw [if_pos hE]⟩
    clear hE Krz
    go_wp2
    go_ret3
    exact ⟨_, by rw [KR.out]; rfl, by rw [KR.out]; exact Own.nil _ _ _ _, KB1.out⟩


def nlz : ByteArray := ⟨#[10, 0]⟩
theorem any_has (l : List UInt8) : Lib.containsAny l [10, 0] = (l.contains 10 || l.contains 0) := by
  unfold Lib.containsAny
  induction l with
  | nil => rfl
  | cons b l ih =>
    unfold Lib.indexAny
    have hg := Lib.indexAny_ge [10, 0] l
    by_cases hb : ([10, 0] : List UInt8).contains b = true
    · rw [if_pos hb]
      have : b = 10 ∨ b = 0 := by simpa using hb
      rcases this with rfl | rfl <;> simp
    · rw [if_neg hb]
      have h1 : b ≠ 10 ∧ b ≠ 0 := by simpa using hb
      have e1 : (b :: l).contains 10 = l.contains 10 := by rw [List.contains_cons]; simp [Ne.symm h1.1]
      have e2 : (b :: l).contains 0 = l.contains 0 := by rw [List.contains_cons]; simp [Ne.symm h1.2]
      rw [e1, e2, ← ih]
      by_cases hm : Lib.indexAny l [10, 0] = -1
      · rw [hm]; rfl
      · rw [if_neg (by simpa using hm)]
        simp only [decide_eq_decide]
        omega
theorem hasC_any (l : ByteArray) : HasC l (hasF l 10 || hasF l 0) := fun h W => by
  have h1 := containsAny_any l nlz W (by omega) (by decide) (by decide) (fun j b hb => by
    match j, hb with
    | 0, hb => simp [nlz] at hb; subst hb; decide
    | 1, hb => simp [nlz] at hb; subst hb; decide)
  have e : Lib.containsAny l.data.toList nlz.data.toList = (hasF l 10 || hasF l 0) := any_has _
  rw [e] at h1
  exact h1
/-- The error of texts and labels. -/
def thE (l0 l1 : ByteArray) (x y z : List Int) : Int := if bigT x || bigT y || bigT z then 2 else if okL l0 && okL l1 then 0 else 3
/-- What Three answers of any texts and labels. -/
def thM (l0 l1 : ByteArray) (x y z : List Int) : List Int × Int × Int := th3 l0 l1 x y z (thE l0 l1 x y z)
theorem bad_ok (l : ByteArray) : badL l (hasF l 10 || hasF l 0) = !okL l := by
  unfold badL okL
  by_cases h : l.size ≤ 100
  · rw [decide_eq_true h, decide_eq_false (show ¬ 100 < l.size by omega)]
    cases hasF l 10 <;> cases hasF l 0 <;> rfl
  · rw [decide_eq_false h, decide_eq_true (show 100 < l.size by omega)]
    rfl
theorem rfE_thE (v0 v1 v2 : Value) (x y z : List Int) (l0 l1 : ByteArray) : rfE [(v0, x), (v1, y), (v2, z)] l0 l1 (hasF l0 10 || hasF l0 0) (hasF l1 10 || hasF l1 0) = thE l0 l1 x y z := by
  unfold rfE thE
  rw [bad_ok, bad_ok]
  simp only [List.any_cons, List.any_nil, Bool.or_false]
  rw [Bool.or_assoc]
  cases (bigT x || (bigT y || bigT z)) <;> cases okL l0 <;> cases okL l1 <;> rfl
theorem three_of (v0 v1 v2 : Value) (x0 x1 x2 : List Int) (l0 l1 : ByteArray) (w : World) (h0 : Rd .u8 anyB w v0 x0) (h1 : Rd .u8 anyB w v1 x1) (h2 : Rd .u8 anyB w v2 x2) (a0 : AllB x0) (a1 : AllB x1) (a2 : AllB x2) :
    Calls Try.prog 11 #[v0, v1, v2, .agg #[.string l0, .string l1]] w fun e w' => ThE w (thM l0 l1 x0 x1 x2) e w' := by
  have h := three_any v0 v1 v2 x0 x1 x2 l0 l1 _ _ w h0 h1 h2 a0 a1 a2 (hasC_any l0) (hasC_any l1)
  rw [rfE_thE] at h
  exact h
end Go.Proofs.Ytidpdhnbnecddaa
