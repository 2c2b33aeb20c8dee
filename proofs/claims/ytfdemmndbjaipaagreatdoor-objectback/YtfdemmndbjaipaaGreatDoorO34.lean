/-
  Walks of the document: octal.
-/
import Derived.Test.YtfdemmndbjaipaaGreatDoorO29
import Derived.Test.YtfdemmndbjaipaaGreatDoorO25
import Derived.Test.YtfdemmndbjaipaaGreatDoorO14
import Derived.Test.YtfdemmndbjaipaaGreatDoorO10B
namespace Go.Proofs.YtfdemmndbjaipaaGreatDoor
open Go.RowKit

theorem octG_six (l : List Int) (h : IsOct l) (hl : l.length ≤ 6) : 0 ≤ octG 0 l ∧ octG 0 l < 262144 := by
  have h1 := octG_range l 0 h (by omega)
  have h2 : (8 : Int) ^ l.length ≤ 8 ^ 6 := by
    have := Nat.pow_le_pow_right (n := 8) (by omega) hl
    exact_mod_cast this
  omega
/-- What the document's octal makes of digits. -/
structure OctD (l : List Int) (n : Int) : Prop where
  eq : IsOct l → l.length ≤ 6 → n = octG 0 l
  lo : -1 ≤ n
  hi : n < 262144
def EnB (w : World) (g : Nat) (e : EnC) : Prop := w.heap[g]? = some (.cells e.l.toArray 57)
section
variable {w w' : World} {g : Nat} {e : EnC}
theorem EnB.lt (h : EnB w g e) : g < w.heap.size := by
  unfold EnB at h
  rcases Nat.lt_or_ge g w.heap.size with h' | h'
  · exact h'
  · rw [Array.getElem?_eq_none h'] at h
    cases h
theorem EnB.range (h : EnB w g e) : w.rangeAt g 0 e.l := by
  intro j v hv
  rw [Nat.zero_add, cell_of_row w g j _ 57 (0, 0) h]
  simpa using hv
theorem EnB.far {B : Nat} (h : EnB w g e) (hb : Below B w w') (hlt : g < B) : EnB w' g e := by
  unfold EnB at h ⊢
  rw [hb.block g hlt]
  exact h
theorem EnB.other {g' i : Nat} (h : EnB w g e) (hne : g ≠ g') (u : Value) : EnB (w.setCell ⟨g', i, none⟩ u) g e := by
  unfold EnB at h ⊢
  rw [Below.heap_setCell _ _ _ _ hne]
  exact h
theorem EnB.frozen (h : EnB w g e) (i : Nat) : w.frozen? ⟨g, i, none⟩ = false := by
  unfold EnB at h
  simp [World.frozen?, h]
theorem EnB.cellI (h : EnB w g e) (i : Nat) (hi : i < e.ids.length) : w.cell? ⟨g, 2 + i, none⟩ = some (.int .u8 (e.ids.getD i 0)) := by
  have := h.range (2 + i) (.int .u8 (e.ids.getD i 0)) (by
    unfold EnC.l cellsK
    rw [show 2 + i = i + 2 by omega]
    simp [List.getD, List.getElem?_eq_getElem hi])
  simpa using this
theorem EnB.setI (h : EnB w g e) (i : Nat) (y : Int) : EnB (w.setCell ⟨g, 2 + i, none⟩ (.int .u8 y)) g { e with ids := e.ids.set i y } := by
  unfold EnB at h ⊢
  simp only [World.setCell, Array.getElem?_modify, h]
  rw [show 2 + i = i + 2 by omega]
  simp [EnC.l, cellsK, List.map_set]
end
def e0E : EnC := ⟨0, ⟨#[]⟩, z32L⟩
theorem e0E_ok : e0E.ok := ⟨by simp [e0E, z32L], fun x hx => by rw [List.eq_of_mem_replicate hx]; omega, by decide, by decide, by decide⟩
set_option maxRecDepth 100000 in
theorem built0E : Tryz.prog.built 57 [] = some e0E.l.toArray := by kernel_rfl
theorem wpList_build0E {ops : Array Oper} {rest : List Oper} {o : Oper} {a : Act} {w : World} {Q : Exit → Act → World → Prop} (hg : o.guard = none) (ho : o.op = .build 57 #[])
    (h : wpList Tryz.prog ops Q rest (a.put o.dst (.agg e0E.l.toArray)) w) : wpList Tryz.prog ops Q (o :: rest) a w := by
  refine wpList_plain hg fun K hK => ?_
  have hr := run_build (P := Tryz.prog) w 57 #[] _ built0E
  unfold Oper.wp execOp
  simp only [ho, Sem.run_bind, List.map_toArray, List.map_nil, hr, Result.andThen_ok]
  exact hK _ _ h
theorem results_rtt {P : Program} {fn : Func} {p t u : Tmp} {ty : TypeId} (h : fn.results = #[.cell p ty, .tmp t, .tmp u]) (tmps : Array Value) (w : World) (g : Nat) (t' : TypeId) (cs : Array Value) (fr : Nat × Nat) (d : TypeDesc)
    (hp : tmps.getD p undef = .pointer (some ⟨g, 0, none⟩)) (hg : w.heap[g]? = some (.cells cs t' fr))
    (hu : P.underlying ty = some d) (hd : (match d with | .struct _ | .array _ _ => true | _ => false) = true) (hi : (P.info? ty).map (·.size) = some cs.size) :
    (results fn tmps).run P w = .ok (.tuple #[.agg cs, tmps.getD t undef, tmps.getD u undef]) w := by
  have hp' : tmps[p]?.getD undef = .pointer (some ⟨g, 0, none⟩) := by simpa using hp
  simp [results, h, hp', asAddr, run_loadVar_row w g t' ty cs fr d hg hu hd hi]
theorem e_info {e : EnC} (h : e.ok) : (Tryz.prog.info? 57).map (·.size) = some e.l.toArray.size := by rw [List.size_toArray, EnC.len h]; kernel_rfl
theorem e_size {e : EnC} (h : e.ok) : e.l.toArray.size = 34 := by rw [List.size_toArray, EnC.len h]
theorem e_ones (e : EnC) : e.l.toArray.all (·.oneCell') = true := by rw [Array.all_eq_true_iff_forall_mem]; intro x hx; exact EnC.ones _ x (by simpa using hx)

/-- The space stands at p first, and the nought at q first behind it; an id stands behind it. -/
structure NxAt (xs : List Int) (p q : Nat) : Prop where
  lt : p < q
  room : q + 33 ≤ xs.length
  no32 : ∀ j, j < p → xs.getD j 0 ≠ 32
  is32 : xs.getD p 0 = 32
  no0 : ∀ j, p ≤ j → j < q → xs.getD j 0 ≠ 0
  is0 : xs.getD q 0 = 0
def NxNo (xs : List Int) : Prop := ∀ p q, ¬ NxAt xs p q
structure NxYes (xs : List Int) (e : EnC) (more : List Int) : Prop where
  out : ∃ p q, NxAt xs p q ∧ OctD (xs.take p) e.m ∧ e.nm = strOfNums ((xs.drop (p + 1)).take (q - (p + 1))) ∧ e.ids = (xs.drop (q + 1)).take 32 ∧ more = xs.drop (q + 33)
theorem nx_no_a {xs : List Int} (h : ∀ j, j < xs.length → xs.getD j 0 ≠ 32) : NxNo xs := fun p q n => h p (by have := n.lt; have := n.room; omega) n.is32
theorem nx_p {xs : List Int} {p p' q : Nat} (h : ∀ j, j < p → xs.getD j 0 ≠ 32) (h1 : xs.getD p 0 = 32) (n : NxAt xs p' q) : p' = p := by
  rcases Nat.lt_trichotomy p p' with k | k | k
  · exact absurd h1 (n.no32 p k)
  · exact k.symm
  · exact absurd n.is32 (h p' k)
theorem nx_no_b {xs : List Int} {p : Nat} (h : ∀ j, j < p → xs.getD j 0 ≠ 32) (h1 : xs.getD p 0 = 32) (h2 : ∀ j, p ≤ j → j < xs.length → xs.getD j 0 ≠ 0) : NxNo xs := fun p' q n => by
  have e := nx_p h h1 n
  subst e
  exact h2 q (by have := n.lt; omega) (by have := n.room; omega) n.is0
theorem nx_no_c {xs : List Int} {p q : Nat} (h : ∀ j, j < p → xs.getD j 0 ≠ 32) (h1 : xs.getD p 0 = 32) (h2 : ∀ j, p ≤ j → j < q → xs.getD j 0 ≠ 0) (h3 : xs.length < q + 33) : NxNo xs := fun p' q' n => by
  have e := nx_p h h1 n
  subst e
  have : q ≤ q' := by
    rcases Nat.lt_or_ge q' q with k | k
    · exact absurd n.is0 (h2 q' (by have := n.lt; omega) k)
    · exact k
  have := n.room
  omega
/-- How next ends. -/
def NxEnd (S : Nat → Prop) (xs : List Int) (w : World) (e : Ending) (w' : World) : Prop :=
  (NxNo xs ∧ e = .returned (.tuple #[.agg e0E.l.toArray, .slice none 0 0, .bool false]) ∧ Below w.heap.size w w') ∨
  (∃ en more r, NxYes xs en more ∧ en.ok ∧ e = .returned (.tuple #[.agg en.l.toArray, r, .bool true]) ∧ Rd .u8 S w r more ∧ Below w.heap.size w w')
theorem rd_part {S : Nat → Prop} {w : World} {xs : List Int} {b off c n lo : Nat} (hS : S b) (hb : b < w.heap.size) (hc : ∀ i, i < xs.length → w.cell? ⟨b, off + i, none⟩ = some (.int .u8 (xs.getD i 0))) (h1 : lo + n ≤ xs.length) (h2 : n ≤ c) (h3 : c ≤ maxLen) : Rd .u8 S w (.slice (some ⟨b, off + lo, none⟩) n c) ((xs.drop lo).take n) := by
  have hl : ((xs.drop lo).take n).length = n := by rw [List.length_take, List.length_drop]; omega
  refine ⟨_, c, by rw [hl], by omega, h3, (fun h => by cases h), fun _ => ⟨b, off + lo, rfl, hb, hS, fun i hi => ?_⟩⟩
  rw [hl] at hi
  rw [Nat.add_assoc, hc (lo + i) (by omega)]
  have h5 : lo + i < xs.length := by omega
  simp [List.getD, hi, List.getElem?_drop]

theorem yieldsIf_buildE {ops : Array Oper} {S : World → Prop} {op : Oper} {a : Act} (hw : Region.wanted op (yielded ops a.tmps) = true) (o1 o2 : Operand) (ho : op.op = .build 57 #[(0, o1), (1, o2)])
    (m : Int) (nm : ByteArray) (h1 : a.eval o1 = .int .i64 m) (h2 : a.eval o2 = .string nm) : YieldsIf Tryz.prog ops S op (.agg (EnC.l ⟨m, nm, z32L⟩).toArray) a :=
  .inl ⟨hw, fun w _ => by
    have hb : Tryz.prog.built 57 [(0, Value.int .i64 m), (1, Value.string nm)] = some (EnC.l ⟨m, nm, z32L⟩).toArray := by
      rw [builtE]
      exact fillE_two m nm
    have hr := run_build (P := Tryz.prog) w 57 #[(0, Value.int .i64 m), (1, Value.string nm)] _ hb
    unfold execOp
    simp only [ho, Sem.run_bind, List.map_toArray, List.map_cons, List.map_nil, h1, h2, hr, Result.andThen_ok, Sem.run_pure]⟩
theorem ids_step (xs : List Int) (q k : Nat) (hk : k < 32) (hl : q + 32 ≤ xs.length) : ((xs.drop q).take k ++ List.replicate (32 - k) 0).set k (xs.getD (q + k) 0) = (xs.drop q).take (k + 1) ++ List.replicate (32 - (k + 1)) 0 ∧ ((xs.drop q).take k ++ List.replicate (32 - k) 0).length = 32 := by
  have hlt : ((xs.drop q).take k).length = k := by rw [List.length_take, List.length_drop]; omega
  refine ⟨?_, by rw [List.length_append, hlt, List.length_replicate]; omega⟩
  have h1 : q + k < xs.length := by omega
  rw [show 32 - k = (32 - (k + 1)) + 1 by omega, List.replicate_succ, List.set_append_right _ _ (Nat.le_of_eq hlt), hlt, Nat.sub_self, List.set_cons_zero, List.take_add_one, List.getElem?_drop, List.getElem?_eq_getElem h1]
  simp [List.getD, List.getElem?_eq_getElem h1]

theorem oidx1 (b : UInt8) (r : List UInt8) : ∀ (a : List UInt8), b ∉ a → Lib.index (a ++ b :: r) [b] = a.length
  | [], _ => by simp [Lib.index, List.isPrefixOf]
  | x :: a, h => by
    have hx : ¬ b = x := fun e => h (by rw [e]; exact List.mem_cons_self)
    have ih := oidx1 b r a (fun e => h (List.mem_cons_of_mem _ e))
    rw [List.cons_append]
    unfold Lib.index
    rw [ih, if_neg (by simp [List.isPrefixOf, hx]), if_neg (by simp)]
    simp
theorem ocut1 (b : UInt8) (a r : List UInt8) (h : b ∉ a) : Lib.cut (a ++ b :: r) [b] = (a, r, true) := by
  unfold Lib.cut
  rw [oidx1 b r a h, if_pos (by omega)]
  simp
theorem oany_mem (chars : List UInt8) : ∀ (l : List UInt8), Lib.containsAny l chars = false → ∀ b ∈ l, b ∉ chars
  | [], _, b, hb => by cases hb
  | x :: l, h, b, hb => by
    unfold Lib.containsAny at h
    have h := of_decide_eq_false h
    unfold Lib.indexAny at h
    by_cases hx : chars.contains x = true
    · rw [if_pos hx] at h; omega
    · rw [if_neg hx] at h
      rcases List.mem_cons.1 hb with rfl | hb
      · simpa using hx
      · refine oany_mem chars l ?_ b hb
        unfold Lib.containsAny
        refine decide_eq_false ?_
        have hg := Lib.indexAny_ge chars l
        split at h
        · rename_i e; have : Lib.indexAny l chars = -1 := by simpa using e
          omega
        · omega
theorem name_no0 {s : ByteArray} (h : nameF s = true) : ∀ b ∈ s.data.toList, b ≠ 0 := by
  unfold nameF at h
  simp only [Bool.and_eq_true, Bool.not_eq_true'] at h
  intro b hb e
  exact oany_mem _ _ h.1.1.1.2 b hb (by rw [e]; simp)
/-- An entry that may be. -/
structure GoodE (e : EnC) : Prop where
  nm : nameF e.nm = true
  md : modF e.m = true
  ok : e.ok
theorem mod_oct {m : Int} (h : modF m = true) : IsOct (octS m) ∧ (octS m).length ≤ 6 ∧ octS m ≠ [] ∧ octG 0 (octS m) = m := by
  unfold modF at h
  simp only [Bool.or_eq_true, decide_eq_true_eq] at h
  rcases h with ((rfl | rfl) | rfl) | rfl
  · refine ⟨fun c hc => ?_, by decide, by decide, by decide⟩
    have : ∀ c ∈ octS 16384, 48 ≤ c ∧ c ≤ 55 := by decide
    exact this c hc
  · refine ⟨fun c hc => ?_, by decide, by decide, by decide⟩
    have : ∀ c ∈ octS 33188, 48 ≤ c ∧ c ≤ 55 := by decide
    exact this c hc
  · refine ⟨fun c hc => ?_, by decide, by decide, by decide⟩
    have : ∀ c ∈ octS 33261, 48 ≤ c ∧ c ≤ 55 := by decide
    exact this c hc
  · refine ⟨fun c hc => ?_, by decide, by decide, by decide⟩
    have : ∀ c ∈ octS 40960, 48 ≤ c ∧ c ≤ 55 := by decide
    exact this c hc
/-- The entries are right and give these bytes. -/
structure TrT (xs : List Int) (es : List EnC) : Prop where
  e : treE es = 0
  l : treL es = xs
  ok : ∀ e ∈ es, e.ok
theorem treE_good {es : List EnC} (h : treE es = 0) (hok : ∀ e ∈ es, e.ok) : ∀ e ∈ es, GoodE e := by
  unfold treE at h
  by_cases h1 : 4096 < es.length ∨ 1048576 < tsF es
  · rw [if_pos h1] at h; omega
  · rw [if_neg h1] at h
    by_cases h2 : es.any noName = true
    · rw [if_pos h2] at h; omega
    · rw [if_neg h2] at h
      by_cases h3 : es.any noMode = true ∨ riB es = false
      · rw [if_pos h3] at h; omega
      · intro e he
        refine ⟨?_, ?_, hok e he⟩
        · cases hn : nameF e.nm with
          | true => rfl
          | false => exact absurd (List.any_eq_true.2 ⟨e, he, by unfold noName; rw [hn]; rfl⟩) h2
        · cases hn : modF e.m with
          | true => rfl
          | false => exact absurd (.inl (List.any_eq_true.2 ⟨e, he, by unfold noMode; rw [hn]; rfl⟩)) h3
theorem treL_cons (e : EnC) (es : List EnC) : treL (e :: es) = entL e ++ treL es := by unfold treL; rw [List.flatMap_cons]
theorem entL_form (e : EnC) (s : List Int) : entL e ++ s = octS e.m ++ 32 :: (strL e.nm ++ 0 :: (e.ids ++ s)) := by unfold entL; simp
theorem entL_ne (e : EnC) (s : List Int) : entL e ++ s ≠ [] := by rw [entL_form]; simp
theorem strOf_strL (s : ByteArray) : strOfNums (strL s) = s := by
  unfold strL strOfNums
  rw [List.map_map]
  have : ((fun n : Int => UInt8.ofNat n.toNat) ∘ fun b : UInt8 => (b.toNat : Int)) = id := by
    funext b
    simp
  rw [this, List.map_id]

/-! The document's reader -/
theorem getD_l {A B : List Int} {j : Nat} (h : j < A.length) : (A ++ B).getD j 0 = A.getD j 0 := by
  simp [List.getD, List.getElem?_append_left h]
theorem getD_r {A B : List Int} {j : Nat} (h : A.length ≤ j) : (A ++ B).getD j 0 = B.getD (j - A.length) 0 := by
  simp [List.getD, List.getElem?_append_right h]
theorem getD_mem {A : List Int} {j : Nat} (h : j < A.length) : A.getD j 0 ∈ A := by
  simp [List.getD, List.getElem?_eq_getElem h]
theorem nx_list {A N I s : List Int} (hA : (32 : Int) ∉ A) (hN : (0 : Int) ∉ N) (hI : I.length = 32) : NxAt (A ++ 32 :: (N ++ 0 :: (I ++ s))) A.length (A.length + 1 + N.length) := by
  refine ⟨by omega, by simp; omega, fun j hj => ?_, ?_, fun j h1 h2 => ?_, ?_⟩
  · rw [getD_l hj]
    intro e
    exact hA (by rw [← e]; exact getD_mem hj)
  · rw [getD_r (Nat.le_refl _), Nat.sub_self]; rfl
  · rw [getD_r h1]
    rcases Nat.lt_or_ge A.length j with h | h
    · obtain ⟨i, hi⟩ : ∃ i, j - A.length = i + 1 := ⟨j - A.length - 1, by omega⟩
      rw [hi, List.getD_cons_succ, getD_l (by omega)]
      intro e
      exact hN (by rw [← e]; exact getD_mem (by omega))
    · rw [show j - A.length = 0 by omega]
      simp
  · rw [getD_r (by omega), show A.length + 1 + N.length - A.length = N.length + 1 by omega, List.getD_cons_succ, getD_r (Nat.le_refl _), Nat.sub_self]
    rfl
theorem nx_q {xs : List Int} {p q q' : Nat} (n : NxAt xs p q) (n' : NxAt xs p q') : q = q' := by
  rcases Nat.lt_trichotomy q q' with k | k | k
  · exact absurd n.is0 (n'.no0 q (by have := n.lt; omega) k)
  · exact k
  · exact absurd n'.is0 (n.no0 q' (by have := n'.lt; omega) k)
theorem nx_at {e : EnC} (h : GoodE e) (s : List Int) : NxAt (entL e ++ s) (octS e.m).length ((octS e.m).length + 1 + (strL e.nm).length) := by
  rw [entL_form]
  refine nx_list (fun hm => ?_) (fun hm => ?_) h.ok.1
  · have := (mod_oct h.md).1 32 hm
    omega
  · unfold strL at hm
    obtain ⟨b, hb, e0⟩ := List.mem_map.1 hm
    refine name_no0 h.nm b hb ?_
    have : b.toNat = 0 := by omega
    exact UInt8.toNat_inj.1 (by rw [this]; rfl)
theorem nx_not_no {e : EnC} (h : GoodE e) (s : List Int) : ¬ NxNo (entL e ++ s) := fun hn => hn _ _ (nx_at h s)
theorem nx_yes {e en : EnC} {s more : List Int} (h : GoodE e) (hy : NxYes (entL e ++ s) en more) : en = e ∧ more = s := by
  obtain ⟨p, q, ha, ho, hn, hi, hm⟩ := hy.out
  have hb := nx_at h s
  have hp : p = (octS e.m).length := nx_p hb.no32 hb.is32 ha
  subst hp
  have hq := nx_q ha hb
  subst hq
  have hoc := mod_oct h.md
  rw [entL_form] at ho hn hi hm
  obtain ⟨A, hA⟩ : ∃ A, octS e.m = A := ⟨_, rfl⟩
  obtain ⟨N, hN⟩ : ∃ N, strL e.nm = N := ⟨_, rfl⟩
  rw [hA] at ho hn hi hm hoc
  rw [hN] at ho hn hi hm
  have t1 : (A ++ 32 :: (N ++ 0 :: (e.ids ++ s))).take A.length = A := by simp
  have t2 : ((A ++ 32 :: (N ++ 0 :: (e.ids ++ s))).drop (A.length + 1)).take (A.length + 1 + N.length - (A.length + 1)) = N := by
    rw [← List.drop_drop, List.drop_left, List.drop_one, List.tail_cons, show A.length + 1 + N.length - (A.length + 1) = N.length by omega, List.take_left]
  have t3 : (A ++ 32 :: (N ++ 0 :: (e.ids ++ s))).drop (A.length + 1 + N.length + 1) = e.ids ++ s := by
    rw [show A.length + 1 + N.length + 1 = A.length + (1 + (N.length + 1)) by omega, ← List.drop_drop, List.drop_left, ← List.drop_drop, List.drop_one, List.tail_cons, ← List.drop_drop, List.drop_left, List.drop_one, List.tail_cons]
  have t4 : (A ++ 32 :: (N ++ 0 :: (e.ids ++ s))).drop (A.length + 1 + N.length + 33) = s := by
    rw [show A.length + 1 + N.length + 33 = (A.length + 1 + N.length + 1) + 32 by omega, ← List.drop_drop, t3, ← h.ok.1, List.drop_left]
  rw [t1] at ho
  rw [t2] at hn
  rw [t3] at hi
  rw [t4] at hm
  refine ⟨?_, hm⟩
  have i1 : en.ids = e.ids := by rw [hi, ← h.ok.1, List.take_left]
  have i2 : en.nm = e.nm := by rw [hn, ← hN, strOf_strL]
  have i3 : en.m = e.m := by rw [ho.eq hoc.1 hoc.2.1, hoc.2.2.2]
  cases en
  cases e
  simp_all

/-! The program's reader -/
theorem u8s_append (a b : List Int) : (a ++ b).map (fun n => UInt8.ofNat n.toNat) = a.map (fun n => UInt8.ofNat n.toNat) ++ b.map (fun n => UInt8.ofNat n.toNat) := List.map_append
theorem u8_back {l : List Int} (h : ∀ c ∈ l, 0 ≤ c ∧ c < 256) : (l.map (fun n => UInt8.ofNat n.toNat)).map (fun b => (b.toNat : Int)) = l := by
  have := strL_strOf h
  unfold strL at this
  rwa [strOfNums_data] at this
theorem rdT_ent {e : EnC} {s : List Int} {es : List EnC} (h : GoodE e) (hr : RdT ((entL e ++ s).map fun n => UInt8.ofNat n.toNat) es) : ∃ es', es = e :: es' ∧ RdT (s.map fun n => UInt8.ofNat n.toNat) es' := by
  have hoc := mod_oct h.md
  rw [entL_form] at hr
  simp only [List.map_append, List.map_cons] at hr
  obtain ⟨A, hA⟩ : ∃ A, (octS e.m).map (fun n => UInt8.ofNat n.toNat) = A := ⟨_, rfl⟩
  obtain ⟨N, hN⟩ : ∃ N, (strL e.nm).map (fun n => UInt8.ofNat n.toNat) = N := ⟨_, rfl⟩
  obtain ⟨I, hI⟩ : ∃ I, e.ids.map (fun n => UInt8.ofNat n.toNat) = I := ⟨_, rfl⟩
  obtain ⟨S, hS⟩ : ∃ S, s.map (fun n => UInt8.ofNat n.toNat) = S := ⟨_, rfl⟩
  rw [hA, hN, hI, hS] at hr
  rw [hS]
  have bA : A.map (fun b => (b.toNat : Int)) = octS e.m := by rw [← hA]; exact u8_back fun c hc => by have := hoc.1 c hc; omega
  have bI : I.map (fun b => (b.toNat : Int)) = e.ids := by rw [← hI]; exact u8_back fun c hc => h.ok.2.1 c hc
  have bN : N = e.nm.data.toList := by
    have := strOf_strL e.nm
    rw [← hN, ← strOfNums_data, this]
  have lA : A.length = (octS e.m).length := by rw [← hA, List.length_map]
  have lI : I.length = 32 := by rw [← hI, List.length_map]; exact h.ok.1
  have nA : (32 : UInt8) ∉ A := fun hm => by
    have : ((32 : UInt8).toNat : Int) ∈ A.map (fun b => (b.toNat : Int)) := List.mem_map.2 ⟨32, hm, rfl⟩
    rw [bA] at this
    have := hoc.1 _ this
    simp at this
  have nN : (0 : UInt8) ∉ N := fun hm => by rw [bN] at hm; exact name_no0 h.nm 0 hm rfl
  have c0 : UInt8.ofNat ((32 : Int)).toNat = 32 := rfl
  have c1 : UInt8.ofNat ((0 : Int)).toNat = 0 := rfl
  rw [c0, c1] at hr
  have k1 := ocut1 32 A (N ++ 0 :: (I ++ S)) nA
  have k2 := ocut1 0 N (I ++ S) nN
  generalize hL : A ++ 32 :: (N ++ 0 :: (I ++ S)) = L at hr k1
  cases hr with
  | nil => simp at hL
  | @cons _ en es' h0 hm hn hi hr =>
    rw [k1] at hm hn hi hr
    simp only at hm hn hi hr
    rw [k2] at hn hi hr
    simp only at hn hi hr
    have i3 : en.m = e.m := by
      have := hm (by rw [bA]; exact hoc.1) (by rw [lA]; have := hoc.2.1; omega) (fun e0 => by rw [e0] at lA; exact hoc.2.2.1 (List.eq_nil_of_length_eq_zero lA.symm))
      rw [this, bA, hoc.2.2.2]
    have i2 : en.nm = e.nm := by rw [hn, bN]
    have i1 : en.ids = e.ids := by
      rw [hi]
      unfold idOf
      rw [← lI, List.take_left, bI]
      have : I.length - (I ++ S).length = 0 := by rw [List.length_append]; omega
      rw [this]
      simp
    have i4 : (I ++ S).drop 32 = S := by rw [← lI, List.drop_left]
    rw [i4] at hr
    refine ⟨es', ?_, hr⟩
    cases en
    cases e
    simp_all
theorem rdT_all : ∀ {es0 es : List EnC}, (∀ e ∈ es0, GoodE e) → RdT ((treL es0).map fun n => UInt8.ofNat n.toNat) es → es = es0
  | [], es, _, hr => by
    cases hr with
    | nil => rfl
    | cons h0 => exact absurd rfl h0
  | e :: es0, es, hg, hr => by
    rw [treL_cons] at hr
    obtain ⟨es', rfl, hr'⟩ := rdT_ent (hg e List.mem_cons_self) hr
    rw [rdT_all (fun x hx => hg x (List.mem_cons_of_mem _ hx)) hr']
/-- What both readers answer. -/
def DtEnd (xs : List Int) (R : List EnC) (E : Int) : Prop :=
  (1048576 < xs.length ∧ R = [] ∧ E = 2) ∨ (xs.length ≤ 1048576 ∧ ((TrT xs R ∧ E = 0) ∨ ((∀ es0, ¬ TrT xs es0) ∧ R = [] ∧ E = 4)))
theorem entL_bytes {e : EnC} (h : e.ok) : ∀ c ∈ entL e, 0 ≤ c ∧ c < 256 := by
  intro c hc
  unfold entL at hc
  rcases List.mem_append.1 hc with hc | hc
  · rcases List.mem_append.1 hc with hc | hc
    · rcases List.mem_append.1 hc with hc | hc
      · rcases List.mem_append.1 hc with hc | hc
        · exact octS_bytes h.2.2.1 h.2.2.2.1 c hc
        · simp at hc; omega
      · unfold strL at hc
        obtain ⟨b, -, rfl⟩ := List.mem_map.1 hc
        have := b.toNat_lt
        omega
    · simp at hc; omega
  · exact h.2.1 c hc
theorem treL_bytes {es : List EnC} (h : ∀ e ∈ es, e.ok) : ∀ c ∈ treL es, 0 ≤ c ∧ c < 256 := by
  intro c hc
  unfold treL at hc
  obtain ⟨e, he, hce⟩ := List.mem_flatMap.1 hc
  exact entL_bytes (h e he) c hce
theorem strOf_inj {a b : List Int} (ha : ∀ c ∈ a, 0 ≤ c ∧ c < 256) (hb : ∀ c ∈ b, 0 ≤ c ∧ c < 256) (h : strOfNums a = strOfNums b) : a = b := by
  rw [← strL_strOf ha, ← strL_strOf hb, h]
theorem pt_dp {xs : List Int} {R : List EnC} {E : Int} (hA : AllIn 0 256 xs) (h : PtEnd xs R E) : DtEnd xs R E := by
  rcases h with h | ⟨hl, es, hr, hok, h⟩
  · exact .inl h
  · right
    refine ⟨hl, ?_⟩
    rw [strOfNums_data] at hr
    have hA' : ∀ c ∈ xs, 0 ≤ c ∧ c < 256 := fun c hc => hA c hc
    rcases h with ⟨h1, h2, rfl, rfl⟩ | ⟨h1, rfl, rfl⟩
    · exact .inl ⟨⟨h1, strOf_inj (treL_bytes hok) hA' h2, hok⟩, rfl⟩
    · refine .inr ⟨fun es0 ht => h1 ?_, rfl, rfl⟩
      have hg := treE_good ht.e ht.ok
      rw [← ht.l] at hr
      have := rdT_all hg hr
      subst this
      exact ⟨ht.e, by rw [ht.l]⟩
theorem ent_inj {e f : EnC} {s t : List Int} (he : GoodE e) (hf : GoodE f) (h : entL e ++ s = entL f ++ t) : e = f ∧ s = t := by
  have hoc := mod_oct he.md
  have hr := octG_six _ hoc.1 hoc.2.1
  rw [hoc.2.2.2] at hr
  have hy : NxYes (entL e ++ s) e s := by
    have t1 : (octS e.m ++ 32 :: (strL e.nm ++ 0 :: (e.ids ++ s))).take (octS e.m).length = octS e.m := by simp
    refine ⟨⟨_, _, nx_at he s, ?_, ?_, ?_, ?_⟩⟩
    · rw [entL_form, t1]
      exact ⟨fun _ _ => hoc.2.2.2.symm, by omega, by omega⟩
    · rw [entL_form, ← List.drop_drop, List.drop_left, List.drop_one, List.tail_cons, show (octS e.m).length + 1 + (strL e.nm).length - ((octS e.m).length + 1) = (strL e.nm).length by omega, List.take_left, strOf_strL]
    · rw [entL_form, show (octS e.m).length + 1 + (strL e.nm).length + 1 = (octS e.m).length + (1 + ((strL e.nm).length + 1)) by omega, ← List.drop_drop, List.drop_left, ← List.drop_drop, List.drop_one, List.tail_cons, ← List.drop_drop, List.drop_left, List.drop_one, List.tail_cons, ← he.ok.1, List.take_left]
    · rw [entL_form, show (octS e.m).length + 1 + (strL e.nm).length + 33 = (octS e.m).length + (1 + ((strL e.nm).length + (1 + 32))) by omega, ← List.drop_drop, List.drop_left, ← List.drop_drop, List.drop_one, List.tail_cons, ← List.drop_drop, List.drop_left, ← List.drop_drop, List.drop_one, List.tail_cons, ← he.ok.1, List.drop_left]
  rw [h] at hy
  exact nx_yes hf hy
theorem treL_inj : ∀ {es fs : List EnC}, (∀ e ∈ es, GoodE e) → (∀ e ∈ fs, GoodE e) → treL es = treL fs → es = fs
  | [], [], _, _, _ => rfl
  | [], f :: fs, _, _, h => by rw [treL_cons] at h; exact absurd h.symm (entL_ne f _)
  | e :: es, [], _, _, h => by rw [treL_cons] at h; exact absurd h (entL_ne e _)
  | e :: es, f :: fs, he, hf, h => by
    rw [treL_cons, treL_cons] at h
    obtain ⟨rfl, h2⟩ := ent_inj (he e List.mem_cons_self) (hf f List.mem_cons_self) h
    rw [treL_inj (fun x hx => he x (List.mem_cons_of_mem _ hx)) (fun x hx => hf x (List.mem_cons_of_mem _ hx)) h2]
theorem dp_one {xs : List Int} {R R' : List EnC} {E E' : Int} (h : DtEnd xs R E) (h' : DtEnd xs R' E') : R = R' ∧ E = E' := by
  rcases h with ⟨h1, rfl, rfl⟩ | ⟨h1, h⟩
  · rcases h' with ⟨h1', rfl, rfl⟩ | ⟨h1', h'⟩
    · exact ⟨rfl, rfl⟩
    · omega
  · rcases h' with ⟨h1', rfl, rfl⟩ | ⟨h1', h'⟩
    · omega
    · rcases h with ⟨ht, rfl⟩ | ⟨hn, rfl, rfl⟩
      · rcases h' with ⟨ht', rfl⟩ | ⟨hn', rfl, rfl⟩
        · exact ⟨treL_inj (treE_good ht.e ht.ok) (treE_good ht'.e ht'.ok) (by rw [ht.l, ht'.l]), rfl⟩
        · exact absurd ht (hn' R)
      · rcases h' with ⟨ht', rfl⟩ | ⟨hn', rfl, rfl⟩
        · exact absurd ht' (hn R')
        · exact ⟨rfl, rfl⟩


def slN : Value → Nat
  | .slice _ n _ => n
  | _ => 0
/-- What has been read, and what is left. -/
structure RdI (xs : List Int) (es : List EnC) (r : List Int) : Prop where
  bytes : AllIn 0 256 r
  len : es.length ≤ 4096
  rl : r.length ≤ xs.length
  sz : tsF es + (r.length : Int) ≤ (es.length : Int) * 64 + (xs.length : Int)
  nms : ∀ e ∈ es, e.nm.size ≤ xs.length
  tr : ∀ es0, TrT xs es0 → ∃ es1, es0 = es ++ es1 ∧ treL es1 = r
theorem RdI.start {xs : List Int} (h : AllIn 0 256 xs) : RdI xs [] xs :=
  ⟨h, by simp, Nat.le_refl _, by simp [tsF], (fun _ h => by cases h), fun es0 ht => ⟨es0, rfl, ht.l⟩⟩
theorem RdI.head {xs : List Int} {es : List EnC} {r : List Int} (h : RdI xs es r) (h0 : r ≠ []) {es0 : List EnC} (ht : TrT xs es0) : ∃ e es2, es0 = es ++ e :: es2 ∧ r = entL e ++ treL es2 ∧ GoodE e := by
  obtain ⟨es1, h1, h2⟩ := h.tr es0 ht
  cases es1 with
  | nil => exact absurd h2.symm h0
  | cons e es2 => exact ⟨e, es2, h1, by rw [← h2, treL_cons], treE_good ht.e ht.ok e (by rw [h1]; simp)⟩
theorem RdI.no {xs : List Int} {es : List EnC} {r : List Int} (h : RdI xs es r) (h0 : r ≠ []) (hn : NxNo r) : ∀ es0, ¬ TrT xs es0 := fun es0 ht => by
  obtain ⟨e, es2, -, h2, h3⟩ := h.head h0 ht
  rw [h2] at hn
  exact nx_not_no h3 _ hn
theorem RdI.many {xs : List Int} {es : List EnC} {r : List Int} (h : RdI xs es r) (h0 : r ≠ []) (hn : es.length = 4096) : ∀ es0, ¬ TrT xs es0 := fun es0 ht => by
  obtain ⟨e, es2, h1, -, -⟩ := h.head h0 ht
  have := (treE_ok ht.e).1
  rw [h1] at this
  simp at this
  omega
theorem RdI.fin {xs : List Int} {es : List EnC} (h : RdI xs es []) {es0 : List EnC} (ht : TrT xs es0) : es0 = es := by
  obtain ⟨es1, h1, h2⟩ := h.tr es0 ht
  cases es1 with
  | nil => rw [h1, List.append_nil]
  | cons e es2 => rw [treL_cons] at h2; exact absurd h2 (entL_ne e _)
theorem tsF_snoc (es : List EnC) (e : EnC) : tsF (es ++ [e]) = tsF es + (((octS e.m).length : Int) + 1 + (e.nm.size : Int) + 1 + 32) := by
  unfold tsF
  rw [List.map_append, List.sum_append]
  simp
theorem RdI.step {xs : List Int} {es : List EnC} {r more : List Int} {en : EnC} (h : RdI xs es r) (hy : NxYes r en more) (hl : es.length < 4096) : RdI xs (es ++ [en]) more ∧ more.length < r.length := by
  obtain ⟨p, q, ha, ho, hn, hi, hm⟩ := hy.out
  have h1 := ha.lt
  have h2 := ha.room
  have hml : more.length = r.length - (q + 33) := by rw [hm, List.length_drop]
  have hnl : en.nm.size ≤ q - (p + 1) := by rw [hn, strOfNums_size, List.length_take]; omega
  have h0 : r ≠ [] := fun e => by rw [e] at h2; simp at h2
  have h3 := (octS_size en.m).2.1
  have h4 := h.rl
  have h5 := h.sz
  refine ⟨⟨fun x hx => h.bytes x (by rw [hm] at hx; exact List.mem_of_mem_drop hx), by rw [List.length_append]; simp; omega, by omega, ?_, fun e he => ?_, fun es0 ht => ?_⟩, by omega⟩
  · rw [tsF_snoc, List.length_append, List.length_singleton]
    omega
  · rcases List.mem_append.1 he with he | he
    · exact h.nms e he
    · simp at he; rw [he]; omega
  · obtain ⟨e, es2, g1, g2, g3⟩ := h.head h0 ht
    rw [g2] at hy
    obtain ⟨rfl, rfl⟩ := nx_yes g3 hy
    exact ⟨es2, by rw [g1]; simp, rfl⟩
theorem oeqF_three {P : Program} {w : World} {d : Nat} {X Y : Array Value} {fs : List Field} {t1 t2 t3 o1 o2 o3 : Nat} (hf : fs.map (fun f => (f.name == "_", f.type, f.offset)) = [(false, t1, o1), (false, t2, o2), (false, t3, o3)]) {x1 y1 x2 y2 x3 y3 : Value} {b1 b2 b3 : Bool}
    (hx1 : (part t1 X o1).run P w = .ok x1 w) (hy1 : (part t1 Y o1).run P w = .ok y1 w) (he1 : (Op.equalIn d t1 x1 y1).run P w = .ok b1 w)
    (hx2 : (part t2 X o2).run P w = .ok x2 w) (hy2 : (part t2 Y o2).run P w = .ok y2 w) (he2 : (Op.equalIn d t2 x2 y2).run P w = .ok b2 w)
    (hx3 : (part t3 X o3).run P w = .ok x3 w) (hy3 : (part t3 Y o3).run P w = .ok y3 w) (he3 : (Op.equalIn d t3 x3 y3).run P w = .ok b3 w) :
    (Op.eqFields d X Y fs).run P w = .ok (b1 && (b2 && (b3 && true))) w := by
  have hlen : fs.length = 3 := by simpa using congrArg List.length hf
  obtain ⟨f1, f2, f3, rfl⟩ : ∃ f1 f2 f3, fs = [f1, f2, f3] := by
    rcases fs with _ | ⟨a, _ | ⟨b, _ | ⟨c, _ | ⟨e, l⟩⟩⟩⟩
    · simp at hlen
    · simp at hlen
    · simp at hlen
    · exact ⟨a, b, c, rfl⟩
    · simp at hlen
  clear hlen
  simp only [List.map_cons, List.map_nil, List.cons.injEq, Prod.mk.injEq, and_true] at hf
  obtain ⟨⟨n1, rfl, rfl⟩, ⟨n2, rfl, rfl⟩, ⟨n3, rfl, rfl⟩⟩ := hf
  exact oeqF_cons n1 hx1 hy1 he1 (oeqF_cons n2 hx2 hy2 he2 (oeqF_cons n3 hx3 hy3 he3 (by simp [Op.eqFields])))
theorem part_idE (w : World) {r : EnC} (hr : r.ok) : (part 24 r.l.toArray 2).run Tryz.prog w = .ok (.agg (cellsK .u8 r.ids).toArray) w := by
  unfold part
  simp only [Sem.run_bind, agg_idE, Result.andThen_ok, if_true, size_idE, Sem.run_pure]
  congr 2
  rw [List.extract_toArray, List.extract_eq_take_drop]
  unfold EnC.l
  rw [show List.drop 2 (Value.int .i64 r.m :: Value.string r.nm :: cellsK .u8 r.ids) = cellsK .u8 r.ids from rfl, List.take_of_length_le (by rw [cellsK_length, hr.1]; omega)]
set_option maxRecDepth 100000 in
theorem fsE : Tryz.prog.underlying 57 = some (.struct (Tryz.prog.fieldsOf 57)) ∧ Tryz.prog.stoodInHeld 57 = false ∧ (Tryz.prog.fieldsOf 57).toList.map (fun f => (f.name == "_", f.type, f.offset)) = [(false, 3, 0), (false, 9, 1), (false, 24, 2)] := ⟨by kernel_rfl, by kernel_rfl, by kernel_rfl⟩
theorem eq_ent (w : World) (d : Nat) {r : EnC} (hr : r.ok) : (Op.equalIn (d + 3) 57 (.agg r.l.toArray) (.agg r.l.toArray)).run Tryz.prog w = .ok true w := by
  obtain ⟨h1, h2, h3⟩ := fsE
  have e1 := run_equalIn_int (P := Tryz.prog) w (d + 1) 3 .i64 .i64 r.m r.m Tryz.underlying3
  have e2 := run_equalIn_string (P := Tryz.prog) w (d + 1) 9 r.nm r.nm Tryz.underlying9
  have e3 := eq_idE w d hr.1
  have p1 : (part 3 r.l.toArray 0).run Tryz.prog w = .ok (.int .i64 r.m) w := run_part_plain (P := Tryz.prog) (w := w) pk_int (by rw [List.getElem?_toArray]; rfl)
  have p2 : (part 9 r.l.toArray 1).run Tryz.prog w = .ok (.string r.nm) w := run_part_plain (P := Tryz.prog) (w := w) pk_str (by rw [List.getElem?_toArray]; rfl)
  have h := run_equalIn_struct (P := Tryz.prog) w (d + 2) 57 r.l.toArray r.l.toArray h1 h2
  have h4 := oeqF_three h3 p1 p1 e1 p2 p2 e2 (part_idE w hr) (part_idE w hr) e3
  rw [h, h4]
  simp
theorem exec_neqE {P : Program} (t : TypeId) (hg : P.eqGuardType P.depth t = false) {a : Act} {o : Oper} {x y : Operand} {t' : TypeId} (ho : o.op = .binOp .neq t x y t') {X Y : Array Value} (hx : a.eval x = .agg X) (hy : a.eval y = .agg Y) {q : Bool} {W : World} (hE : (Op.equalIn 10000 t (.agg X) (.agg Y)).run P W = .ok q W) : (execOp a.eval o).run P W = .ok (.value (.bool (!q))) W := by
  unfold execOp
  rw [ho]
  simp only [hx, hy, Sem.run_bind, run_eqGuard_agg W .neq t x y X Y hg, Result.andThen_ok, run_neq_struct W t X Y, hE, Sem.run_pure]
set_option maxHeartbeats 2000000 in
set_option maxRecDepth 100000 in
theorem sameE_any (v u : Value) (es : List EnC) (w : World) (hr : RdE w v es) (hs : RdE w u es) (hl : es.length ≤ 1048576) :
    Calls Tryz.prog 7 #[v, u] w fun e w' => e = .returned (.bool true) ∧ Below w.heap.size w w' := by
  obtain ⟨a, c, rfl, hlc, hok, hrd⟩ := hr
  obtain ⟨a2, c2, rfl, hlc2, hok2, hrd2⟩ := hs
  have KR := Kept.mk hrd
  have KK := Kept.mk hok
  have KR2 := Kept.mk hrd2
  clear hrd hok hrd2 hok2
  go_enter Tryz.func7, Tryz.ntmps7
  go_wp2
  go_loopw [13] (fun iv wr => ∃ k : Nat, k ≤ es.length ∧ iv = .int .i64 k ∧ Below w.heap.size w wr) (fun iv _ => es.length - (intOf iv).toNat)
  case atStart => exact ⟨0, Nat.zero_le _, rfl, Below.refl _ _⟩
  case round =>
    obtain ⟨k, hk, rfl, hbel⟩ := hrel
    have KBr := Kept.mk hbel
    by_cases hlt : k < es.length
    · have hki : (k : Int) < (es.length : Int) := by omega
      obtain ⟨b, off, rfl, hbl, hrg⟩ := KR.out (by omega)
      obtain ⟨b2, off2, rfl, hbl2, hrg2⟩ := KR2.out (by omega)
      have hbr : b < wr.heap.size := Nat.lt_of_lt_of_le hbl hbel.size
      have hbr2 : b2 < wr.heap.size := Nat.lt_of_lt_of_le hbl2 hbel.size
      have hR1 : Kept (∀ W, CC wr W → W.rangeAt b (off + k * 34) (es[k]'hlt).l) := ⟨fun W hW j u hu => by
        rw [hW.cell (p := ⟨b, off + k * 34 + j, none⟩) hbr, hbel.cell (p := ⟨b, off + k * 34 + j, none⟩) hbl]
        exact hrg k hlt j u hu⟩
      have hR2 : Kept (∀ W, CC wr W → W.rangeAt b2 (off2 + k * 34) (es[k]'hlt).l) := ⟨fun W hW j u hu => by
        rw [hW.cell (p := ⟨b2, off2 + k * 34 + j, none⟩) hbr2, hbel.cell (p := ⟨b2, off2 + k * 34 + j, none⟩) hbl2]
        exact hrg2 k hlt j u hu⟩
      have hoA := KK.out _ (List.getElem_mem hlt)
      have KEq : Kept (∀ W, (Op.equalIn 10000 57 (.agg (es[k]'hlt).l.toArray) (.agg (es[k]'hlt).l.toArray)).run Tryz.prog W = .ok true W) := ⟨fun W => eq_ent W 9997 hoA⟩
      have KI1 : Kept ((Tryz.prog.info? 57).map (·.size) = some (es[k]'hlt).l.length) := ⟨by rw [EnC.len hoA]; kernel_rfl⟩
      clear hbel hrg hrg2 hoA
      have e3 : IntKind.i64.wrap ((k : Int) + 1) = (k : Int) + 1 := wr64 (by omega) (by omega)
      generalize (es[k]'hlt).l = LA at *
      clear hbr hbl hbr2 hbl2
      go_upto_region 6 with fail
      refine wp_region_quietC (C := CC wr) (by kernel_rfl) (by kernel_rfl) (Below.refl _ _).drew ?_
      go_big_quiet_step ((intro _; rfl))
      go_big_quiet_step ((intro _; rfl))
      refine BigFrame.wpQuiet_want rfl (fun K hK => quiet_run (v := .pointer (some ⟨b, off + k * 34, none⟩)) (fun W hW => by go_simp; all_goals first | rfl | (intro hneg; exfalso; omega)) (hK _ ?_))
      clear hK K
      simp only [Act.put, List.setIfInBounds_toArray, List.set_cons_zero, List.set_cons_succ]
      refine BigFrame.wpQuiet_want rfl (fun K hK => quiet_load_mid 57 _ rfl b (off + k * 34) rfl LA _ hR1.out Tryz.underlying57 rfl KI1.out (hK _ ?_))
      clear hK K
      simp only [Act.put, List.setIfInBounds_toArray, List.set_cons_zero, List.set_cons_succ]
      go_big_quiet_step ((intro _; rfl))
      go_big_quiet_step ((intro _; rfl))
      refine BigFrame.wpQuiet_want rfl (fun K hK => quiet_run (v := .pointer (some ⟨b2, off2 + k * 34, none⟩)) (fun W hW => by go_simp; all_goals first | rfl | (intro hneg; exfalso; omega)) (hK _ ?_))
      clear hK K
      simp only [Act.put, List.setIfInBounds_toArray, List.set_cons_zero, List.set_cons_succ]
      refine BigFrame.wpQuiet_want rfl (fun K hK => quiet_load_mid 57 _ rfl b2 (off2 + k * 34) rfl LA _ hR2.out Tryz.underlying57 rfl KI1.out (hK _ ?_))
      clear hK K
      simp only [Act.put, List.setIfInBounds_toArray, List.set_cons_zero, List.set_cons_succ]
      refine BigFrame.wpQuiet_want rfl (fun K hK => quiet_run (v := .bool false) (fun W hW => exec_neqE 57 Tryz.eqGuardType57 rfl rfl rfl (KEq.out W)) (hK _ ?_))
      clear hK K
      simp only [Act.put, List.setIfInBounds_toArray, List.set_cons_zero, List.set_cons_succ]
      refine wpQuiet_nil ?_
      intro w3 hw3
      have KB3 := Kept.mk (KBr.out.trans (Below.mono hw3 KBr.out.size))
      clear hw3
      go_wp2
      go_roundw
      case rel => exact ⟨k + 1, by omega, by go_num, KB3.out⟩
      case measure => simp [intOf]; omega
    · have hki : ¬ (k : Int) < (es.length : Int) := by omega
      clear hbel
      go_wp2
      go_ret
      exact ⟨rfl, KBr.out⟩
end Go.Proofs.YtfdemmndbjaipaaGreatDoor
