/-
  Pure: the document's pieces come to the same text. Quiet steps in a class of worlds.
-/
import Derived.Test.YtidpdhnbnecddaaM18
namespace Go.Proofs.Ytidpdhnbnecddaa
open Go.RowKit

def CC (W w' : World) : Prop := Below W.heap.size W w'
theorem CC.refl (W : World) : CC W W := Below.refl _ _
theorem CC.on {W w' w'' : World} (h : CC W w') (hb : Below w'.heap.size w' w'') : CC W w'' := Below.trans h (hb.mono (Below.size h))
theorem quiet_run {P : Program} {C : World → Prop} {K : Act → Prop} {o : Oper} {a : Act} {v : Value} (h : ∀ w, C w → (execOp a.eval o).run P w = .ok (.value v) w) (hk : K (a.put o.dst v)) : o.quiet P a C K :=
  ⟨v, fun w hw => by
    unfold Oper.quietAt
    rw [h w hw]
    exact ⟨rfl, rfl⟩, hk⟩
theorem wp_region_quietC {P : Program} {C : World → Prop} {id : Nat} {Q : Exit → Act → World → Prop} {a : Act} {w : World} {l : List Oper} (hm : P.follows .mixedOrders = true) (hB : Region.lexB .any l.toArray = true) (hC : C { w with drawn := w.drawn + 1 })
    (h : wpQuiet P l.toArray C (fun a' => ∀ w', C w' → Q .normal a' w') l a) : (Code.region id l.toArray true).wp P Q a w :=
  wp_region_quiet hm hB hC (by simpa using h)
theorem quiet_load_mid {P : Program} {C : World → Prop} {K : Act → Prop} {o : Oper} {a : Act} (ty : TypeId) (x : Operand) (ho : o.op = .load ty x)
    (b off : Nat) (hx : a.eval x = .pointer (some ⟨b, off, none⟩)) (cs : List Value) (d : TypeDesc) (hc : ∀ w, C w → w.rangeAt b off cs)
    (hu : P.underlying ty = some d) (hd : d.isRow = true) (hi : (P.info? ty).map (·.size) = some cs.length) (hk : K (a.put o.dst (.agg cs.toArray))) : o.quiet P a C K :=
  quiet_run (fun w hw => by
    unfold execOp
    simp only [ho, hx, Instr.loadAt, Instr.sureAddr, Sem.run_bind, Sem.run_pure, Result.andThen_ok, run_loadVar_mid w b off ty cs d (hc w hw) hu hd hi]) hk
theorem quiet_cat {C : World → Prop} {K : Act → Prop} {o : Oper} {a : Act} (x y : Operand) (ho : o.op = .binOp .add 9 x y 9) (s t : ByteArray) (hx : a.eval x = .string s) (hy : a.eval y = .string t) (hb : s.size + t.size ≤ 9223372036854775807) (hk : K (a.put o.dst (.string (s ++ t)))) : o.quiet Try.prog a C K :=
  quiet_run (fun w _ => by
    have hb2 : ¬ 9223372036854775807 < s.size + t.size := by omega
    unfold execOp
    simp only [ho, hx, hy]
    go_simp) hk
/-- What a clash puts behind a text that ends with a line feed, or has no byte. -/
def pcT (l0 l1 : ByteArray) (p : Pc) : List Int := nms (mkA ++ l0 ++ mkL) ++ clsd p.2.1 ++ nms mkO ++ clsd p.1 ++ nms mkE ++ clsd p.2.2 ++ nms (mkZ ++ l1 ++ mkL)
/-- A piece's text, and whether it clashes. -/
def pcR (l0 l1 : ByteArray) (p : Pc) : List Int × Nat := match setF p with
  | some L => (jnd L, 0)
  | none => (pcT l0 l1 p, 1)
theorem nms_cat (a b : ByteArray) : nms (a ++ b) = nms a ++ nms b := by
  unfold nms
  rw [ByteArray.data_append, Array.toList_append, List.map_append]
theorem endd_cl (T : List Int) (A : List ByteArray) (h : T.getLast? = some 10) : endd (T ++ jnd A) = T ++ clsd A := by
  unfold clsd
  by_cases hA : jnd A = []
  · rw [if_pos hA, hA, List.append_nil]
    unfold endd
    rw [if_pos h]
  · rw [if_neg hA]
    have hl : (T ++ jnd A).getLast? = (jnd A).getLast? := by rw [List.getLast?_append, List.getLast?_eq_some_getLast hA]; rfl
    unfold endd
    rw [hl]
    split
    · rfl
    · rw [List.append_assoc]
theorem last_mk (T : List Int) (s : ByteArray) : (T ++ nms (s ++ mkL)).getLast? = some 10 := by
  rw [nms_cat, ← List.append_assoc]
  have : nms mkL = [10] := rfl
  rw [this, List.getLast?_concat]
theorem clash_pc (T : List Int) (l0 l1 : ByteArray) (p : Pc) : clash T l0 l1 p.1 p.2.1 p.2.2 = T ++ pcT l0 l1 p := by
  have hO : ∃ s, mkO = s ++ mkL := ⟨⟨#[124, 124, 124, 124, 124, 124, 124, 32, 98, 97, 115, 101]⟩, rfl⟩
  have hE : ∃ s, mkE = s ++ mkL := ⟨⟨#[61, 61, 61, 61, 61, 61, 61]⟩, rfl⟩
  obtain ⟨sO, eO⟩ := hO
  obtain ⟨sE, eE⟩ := hE
  have e2 : cl2 T l0 p.2.1 = cl1 T l0 ++ clsd p.2.1 := endd_cl _ _ (last_mk _ _)
  have e4 : cl4 T l0 p.2.1 p.1 = cl3 T l0 p.2.1 ++ clsd p.1 := endd_cl _ _ (by unfold cl3; rw [eO]; exact last_mk _ _)
  have e6 : cl6 T l0 p.2.1 p.1 p.2.2 = cl5 T l0 p.2.1 p.1 ++ clsd p.2.2 := endd_cl _ _ (by unfold cl5; rw [eE]; exact last_mk _ _)
  unfold clash
  rw [e6]
  unfold cl5
  rw [e4]
  unfold cl3
  rw [e2]
  unfold cl1 pcT
  simp only [List.append_assoc]
theorem thF_pc (l0 l1 : ByteArray) (T : List Int) (n : Nat) (p : Pc) (r : List Pc) : thF l0 l1 T n (p :: r) = thF l0 l1 (T ++ (pcR l0 l1 p).1) (n + (pcR l0 l1 p).2) r := by
  unfold pcR
  cases h : setF p with
  | some L => rw [thF_some h]; rfl
  | none => rw [thF_none h, clash_pc]
/-- The document's pieces from a line of base on: the text and how many clash. -/
def dcG (l0 l1 : ByteArray) (O A B : List ByteArray) (X Y : List Int) : Nat → Nat → Nat → Nat → Nat → List Int × Nat
  | 0, _, i, j, k => pcR l0 l1 (O.drop i, A.drop j, B.drop k)
  | f + 1, x, i, j, k =>
    if X.getD x (-1) = -1 ∨ Y.getD x (-1) = -1 then dcG l0 l1 O A B X Y f (x + 1) i j k
    else
      let c := pcR l0 l1 (sg O i x, sg A j (X.getD x (-1)).toNat, sg B k (Y.getD x (-1)).toNat)
      let d := dcG l0 l1 O A B X Y f (x + 1) (x + 1) ((X.getD x (-1)).toNat + 1) ((Y.getD x (-1)).toNat + 1)
      (c.1 ++ nms (O.getD x lE) ++ d.1, c.2 + d.2)
theorem dcG_pass {l0 l1 : ByteArray} {O A B : List ByteArray} {X Y : List Int} {f x i j k : Nat} {y z : Int} (hy : X[x]? = some y) (hz : Y[x]? = some z) (h : y = -1 ∨ z = -1) : dcG l0 l1 O A B X Y (f + 1) x i j k = dcG l0 l1 O A B X Y f (x + 1) i j k := by
  rw [dcG, List.getD, hy, List.getD, hz]
  exact if_pos h
theorem dcG_hit {l0 l1 : ByteArray} {O A B : List ByteArray} {X Y : List Int} {f x i j k y z : Nat} (hy : X[x]? = some (y : Int)) (hz : Y[x]? = some (z : Int)) : dcG l0 l1 O A B X Y (f + 1) x i j k = ((pcR l0 l1 (sg O i x, sg A j y, sg B k z)).1 ++ nms (O.getD x lE) ++ (dcG l0 l1 O A B X Y f (x + 1) (x + 1) (y + 1) (z + 1)).1, (pcR l0 l1 (sg O i x, sg A j y, sg B k z)).2 + (dcG l0 l1 O A B X Y f (x + 1) (x + 1) (y + 1) (z + 1)).2) := by
  rw [dcG, List.getD, hy, List.getD, hz]
  simp only [Option.getD_some, Int.toNat_natCast]
  exact if_neg (by omega)
/-- A line that stays is the same on both sides. -/
def Sm (O A : List ByteArray) (X : List Int) : Prop := ∀ (x : Nat) (y : Int), X[x]? = some y → y ≠ -1 → ∃ s, O[x]? = some s ∧ A[y.toNat]? = some s
theorem plF_sm {O A : List ByteArray} : ∀ (W : List Pt) (P : List Int), (∀ i p q, W[i]? = some p → W[i + 1]? = some q → StOk O A p q) → Sm O A P → Sm O A (plF W P)
  | [], _, _, h => h
  | [_], _, _, h => h
  | p :: q :: r, P, hs, h => by
    rw [plF]
    refine plF_sm (q :: r) _ (fun i p' q' h1 h2 => hs (i + 1) p' q' (by simpa using h1) (by simpa using h2)) ?_
    rcases hs 0 p q rfl rfl with ⟨hd, s, h1, h2⟩ | hd | hd
    · rw [if_pos hd]
      intro x y hy hn
      by_cases e : p.1 = x
      · subst e
        have hl : p.1 < P.length := by have := (List.getElem?_eq_some_iff.1 hy).1; simpa using this
        rw [List.getElem?_set_self hl] at hy
        injection hy with hy
        subst hy
        exact ⟨s, h1, by simpa using h2⟩
      · rw [List.getElem?_set_ne e] at hy
        exact h x y hy hn
    · rw [if_neg (by rw [hd]; intro e; injection e with e1 e2; omega)]
      exact h
    · rw [if_neg (by rw [hd]; intro e; injection e with e1 e2; omega)]
      exact h
theorem plP_sm (a b : List ByteArray) : Sm a b (plP a b) := by
  obtain ⟨hok, -, -⟩ := way_all a b _ a b 0 0 (Nat.le_refl _) rfl rfl (Nat.zero_le _) (Nat.zero_le _)
  refine plF_sm _ _ hok.steps (fun x v hv hn => ?_)
  exact absurd (List.eq_of_mem_replicate (List.mem_of_getElem? hv)) hn
theorem sg_one {L : List ByteArray} {x : Nat} {s : ByteArray} (h : L[x]? = some s) : sg L x (x + 1) = [s] := by
  unfold sg
  obtain ⟨hl, hg⟩ := List.getElem?_eq_some_iff.1 h
  rw [List.drop_eq_getElem_cons hl, show x + 1 - x = 1 from by omega, hg]
  rfl
theorem thF_dc {l0 l1 : ByteArray} {O A B : List ByteArray} {X Y : List Int} (hX : Sm O A X) (hY : Sm O B Y) (lX : X.length = O.length) (lY : Y.length = O.length) : ∀ (f x i j k : Nat) (T : List Int) (n : Nat), x + f = O.length → (∀ (x : Nat) (v : Int), X[x]? = some v → v ≠ -1 → 0 ≤ v) → (∀ (x : Nat) (v : Int), Y[x]? = some v → v ≠ -1 → 0 ≤ v) →
    thF l0 l1 T n (ctG O A B X Y f x i j k) = (T ++ (dcG l0 l1 O A B X Y f x i j k).1, n + (dcG l0 l1 O A B X Y f x i j k).2)
  | 0, x, i, j, k, T, n, _, _, _ => by
    rw [ctG_zero, thF_pc]
    rfl
  | f + 1, x, i, j, k, T, n, hx, pX, pY => by
    obtain ⟨y, hy⟩ : ∃ y, X[x]? = some y := ⟨_, List.getElem?_eq_getElem (by omega)⟩
    obtain ⟨z, hz⟩ : ∃ z, Y[x]? = some z := ⟨_, List.getElem?_eq_getElem (by omega)⟩
    by_cases h : y = -1 ∨ z = -1
    · rw [ctG_pass hy hz h, dcG_pass hy hz h]
      exact thF_dc hX hY lX lY f (x + 1) i j k T n (by omega) pX pY
    · have hy1 : y ≠ -1 := fun e => h (.inl e)
      have hz1 : z ≠ -1 := fun e => h (.inr e)
      have py := pX x y hy hy1
      have pz := pY x z hz hz1
      obtain ⟨s, hs, hsA⟩ := hX x y hy hy1
      obtain ⟨t, ht, htB⟩ := hY x z hz hz1
      obtain ⟨yn, rfl⟩ : ∃ m : Nat, y = m := ⟨y.toNat, by omega⟩
      obtain ⟨zn, rfl⟩ : ∃ m : Nat, z = m := ⟨z.toNat, by omega⟩
      rw [Int.toNat_natCast] at hsA htB
      have est : s = t := by rw [hs] at ht; injection ht
      subst est
      have hm : (pcR l0 l1 (sg O x (x + 1), sg A yn (yn + 1), sg B zn (zn + 1))) = (nms s, 0) := by
        rw [sg_one hs, sg_one hsA, sg_one htB]
        unfold pcR setF
        simp [jnd_one]
      have hg : O.getD x lE = s := by rw [List.getD, hs]; rfl
      rw [ctG_hit hy hz, dcG_hit hy hz, thF_pc, thF_pc, hm, thF_dc hX hY lX lY f (x + 1) (x + 1) (yn + 1) (zn + 1) _ _ (by omega) pX pY, hg]
      simp only [List.append_assoc, Nat.add_zero, Nat.add_assoc]
/-- The document's text and how many clash. -/
def dcP (l0 l1 : ByteArray) (O A B : List ByteArray) : List Int × Nat := dcG l0 l1 O A B (plP O A) (plP O B) O.length 0 0 0 0
theorem th_dc (l0 l1 : ByteArray) (O A B : List ByteArray) : thF l0 l1 [] 0 (cutP O A B) = dcP l0 l1 O A B := by
  have h := thF_dc (l0 := l0) (l1 := l1) (plP_sm O A) (plP_sm O B) (plP_len O A) (plP_len O B) O.length 0 0 0 0 [] 0 (by omega) (fun x v h1 h2 => ((plP_ok O A).within x v h1 h2).1) (fun x v h1 h2 => ((plP_ok O B).within x v h1 h2).1)
  rw [List.nil_append, Nat.zero_add] at h
  exact h
end Go.Proofs.Ytidpdhnbnecddaa
