/-
  The document's basic, Id, DocId.
-/
import Derived.Test.YtkbalngddlhlpaaGreatDoorO10B
import Derived.Test.YtkbalngddlhlpaaGreatDoorQ3
import Derived.Test.YtkbalngddlhlpaaGreatDoorShR
import Derived.Lib.SlBytesConst
import Derived.DeepKeys
import Derived.Deep.RegionHeld3
namespace Go.Proofs.YtkbalngddlhlpaaGreatDoor
open Go.RowKit





theorem Rd.litF (k : IntKind) (w : World) (xs : List Int) (t : TypeId) (fr : Nat × Nat) (h : xs.length ≤ 1000) : Rd k (fun g => g = w.heap.size) (w.alloc (.cells (cellsK k xs).toArray t fr)) (.slice (some ⟨w.heap.size, 0, none⟩) xs.length xs.length) xs := by
  refine ⟨some ⟨w.heap.size, 0, none⟩, xs.length, rfl, Nat.le_refl _, by unfold maxLen; omega, (fun h => by cases h), fun _ => ⟨w.heap.size, 0, rfl, by simp, rfl, fun i hi => ?_⟩⟩
  have hh := heap_alloc_new w (.cells (cellsK k xs).toArray t fr)
  simp only [Nat.zero_add, World.cell?, hh]
  simp [cellsK, List.getD, List.getElem?_eq_getElem hi]
theorem conv_const (w : World) (C : Array Value) (n c : Nat) : (convert 27 27 (.slice (some ⟨w.heap.size, 0, none⟩) n c)).run Tryz.prog (w.alloc (.cells C 5)) = .ok (.slice (some ⟨w.heap.size, 0, none⟩) n c) (w.alloc (.cells C 5 (C.size, C.size + 1))) :=
  Lib.run_convert_bytes_const w _ _ C n c Tryz.underlying27 Tryz.underlying5

theorem lit_step (w : World) (xs : List Int) (h : xs.length ≤ 1000) : ∃ wa, (convert 27 27 (.slice (some ⟨w.heap.size, 0, none⟩) xs.length xs.length)).run Tryz.prog (w.alloc (.cells (cellsK .u8 xs).toArray 5)) = .ok (.slice (some ⟨w.heap.size, 0, none⟩) xs.length xs.length) wa ∧
    Rd .u8 anyB wa (.slice (some ⟨w.heap.size, 0, none⟩) xs.length xs.length) xs ∧ Below w.heap.size w wa :=
  ⟨_, conv_const w _ _ _, (Rd.litF .u8 w xs 5 _ h).any, (Below.refl w.heap.size w).alloc (Nat.le_refl _) _⟩

theorem run_eqItems_same {P : Program} (w : World) (d : Nat) (e : TypeId) (q : IntKind) (hu : P.underlying e = some (.int q)) (hpk : P.plainKey e = true) (xs : Array Value) :
    ∀ (is : List Nat), (∀ i ∈ is, ∃ n, xs[i * 1]? = some (.int q n)) → (Op.eqItems (d + 1) e 1 xs xs is).run P w = .ok true w
  | [], _ => by simp [Op.eqItems]
  | i :: is, h => by
    obtain ⟨n, hn⟩ := h i (by simp)
    have hp := run_part_plain (P := P) (w := w) hpk hn
    have he := run_equalIn_int (P := P) w d e q q n n hu
    simp only [Op.eqItems, Sem.run_bind, hp, he, Result.andThen_ok, BEq.rfl, Bool.not_true, Bool.false_eq_true, if_false]
    exact run_eqItems_same w d e q hu hpk xs is (fun j hj => h j (by simp [hj]))
theorem run_same_row {P : Program} (w : World) (t e : TypeId) (n : Nat) (q : IntKind) (i : TypeInfo) (ht : P.underlying t = some (.array n e)) (hu : P.underlying e = some (.int q)) (hpk : P.plainKey e = true) (hi : P.info? e = some i) (hce : P.cellsOf e = 1) (l : List Int) (hl : l.length = n) :
    (Op.equalIn 10000 t (.agg (l.map (Value.int q)).toArray) (.agg (l.map (Value.int q)).toArray)).run P w = .ok true w := by
  have h := run_eqItems_same (P := P) w 9998 e q hu hpk (l.map (Value.int q)).toArray (List.range n) (fun i hi => by
    have := List.mem_range.1 hi
    exact ⟨l.getD i 0, by simp [List.getD, List.getElem?_eq_getElem (show i < l.length by omega)]⟩)
  rw [show (10000 : Nat) = 9999 + 1 from rfl, run_equalIn_array (P := P) w 9999 _ _ ht hi, hce]
  exact h
theorem same_id (w : World) (l : List Int) (hl : l.length = 32) : (Op.equalIn 10000 31 (.agg (idV l)) (.agg (idV l))).run Tryz.prog w = .ok true w := by
  obtain ⟨i, _, hi, _⟩ := info8
  exact run_same_row w 31 5 32 .u8 i Tryz.underlying31 Tryz.underlying5 (by kernel_rfl) hi (by kernel_rfl) l hl
theorem allS_lit {xs : List Int} (h : xs.all (fun x => decide (0 ≤ x ∧ x < 256)) = true) : Sh.AllB xs := by
  intro x hx
  have := List.all_eq_true.1 h x hx
  simpa using this
theorem dec3 : Lib.decDigits 3 = [51] := by rw [Lib.decDigits, dif_pos (by omega)]; rfl
theorem hd33 : strL (hdB 3 3) = [98, 108, 111, 98, 32, 51, 0] := by
  unfold hdB
  simp only [Lib.itoa]
  rw [if_neg (by omega), show (3 : Int).toNat = 3 from rfl, dec3]
  rfl
theorem id_abc : idR 3 [97, 98, 99] = Sh.digF (Sh.sumS Sh.ksK [98, 108, 111, 98, 32, 51, 0, 97, 98, 99]).list ∧ idE 3 3 = 0 := by
  have h : idE 3 3 = 0 := by decide
  refine ⟨?_, h⟩
  unfold idR
  rw [if_pos (show idE 3 ([97, 98, 99] : List Int).length = 0 from h)]
  unfold idL
  rw [show (([97, 98, 99] : List Int).length : Int) = 3 from rfl, hd33]
  rfl
def isZ : Option Value → Bool
  | some (.int .u8 0) => true
  | _ => false
theorem isZ_eq {o : Option Value} (h : isZ o = true) : o = some (.int .u8 0) := by
  unfold isZ at h
  split at h
  · rfl
  · cases h
theorem ent_of {m : Int} {nm : ByteArray} (E : Array Value) (h1 : E.size = 34) (h2 : E[0]? = some (.int .i64 m)) (h3 : E[1]? = some (.string nm)) (h4 : E.all (·.oneCell') = true) (h5 : ((List.range 32).all fun i => isZ (E[2 + i]?)) = true) : Ent E m nm :=
  ⟨h1, h2, h3, h4, fun i hi => isZ_eq (List.all_eq_true.1 h5 i (List.mem_range.2 hi))⟩
theorem wpAnyH_takeD {P : Program} {md : Region.Mode} {ops : Array Oper} {Q : Exit → Act → World → Prop} {S : World → Prop} {i : Nat} {oi : Oper} {d : Option Tmp} {v : Value} {fuel : Nat} {listed : Array Bool} {a : Act} {w : World} (hi : ops[i]? = some oi) (hd : oi.dst = d)
    (hs : Region.noSelect ops = true) (hf : Region.free md ops listed i = true) (hr : (Region.ready md ops listed).contains i = true)
    (hQ : ∀ c a w, Q (.panic c) (a.put oi.dst v) w → Q (.panic c) a w) (hy : YieldsIf P ops S oi v a) (hS : S w)
    (h : wpAnyH P md ops Q S fuel (listed.setIfInBounds i true) (a.put d v) w) : wpAnyH P md ops Q S (fuel + 1) listed a w := by
  subst hd
  exact wpAnyH_take hi hs hf hr hQ hy hS h
set_option maxHeartbeats 1000000 in
set_option maxRecDepth 100000 in
theorem awake_any (w : World) (hg : Gv w) : Calls Tryz.prog 5 #[] w fun e w' => e = .returned (.bool true) ∧ Below w.heap.size w w' := by
  obtain ⟨wa, cvA, rdA, blA⟩ := lit_step w [97, 98, 99] (by simp)
  have cvA : (convert 27 27 (.slice (some ⟨w.heap.size, 0, none⟩) 3 3)).run Tryz.prog (w.alloc (.cells #[.int .u8 97, .int .u8 98, .int .u8 99] 5)) = .ok (.slice (some ⟨w.heap.size, 0, none⟩) 3 3) wa := cvA
  have K1 := id_any 3 _ [97, 98, 99] wa (hg.later blA) rdA (allS_lit rfl)
  rw [show ([97, 98, 99] : List Int).length = 3 from rfl] at K1
  rw [id_abc.1, id_abc.2] at K1
  have hdl := Sh.digF_length (Sh.sumS Sh.ksK [98, 108, 111, 98, 32, 51, 0, 97, 98, 99]).list
  have KSum : Kept (∀ w' v, Below w.heap.size w w' → Rd .u8 anyB w' v [98, 108, 111, 98, 32, 51, 0, 97, 98, 99] → Calls Tryz.prog 24 #[v] w' fun e w2 => e = .returned (.agg (idV (Sh.digF (Sh.sumS Sh.ksK [98, 108, 111, 98, 32, 51, 0, 97, 98, 99]).list))) ∧ Below w'.heap.size w' w2) := ⟨fun w' v h hr => Sh.sum_any v _ Sh.ksK w' (shRd hr (allS_lit rfl)) Sh.ksK_length (hg.later h).rnd⟩
  generalize Sh.digF (Sh.sumS Sh.ksK [98, 108, 111, 98, 32, 51, 0, 97, 98, 99]).list = dl at *
  have KSame : Kept (∀ w, (Op.equalIn 10000 31 (.agg (idV dl)) (.agg (idV dl))).run Tryz.prog w = .ok true w) := ⟨fun w => same_id w dl hdl⟩
  obtain ⟨DL, hDV⟩ : ∃ DL, Sh.cellsU8 dl = DL := ⟨_, rfl⟩
  unfold idV at K1 KSum KSame
  have KDs : Kept (DL.toArray.size = 32) := ⟨by rw [← hDV, List.size_toArray, Sh.cellsU8_length, hdl]⟩
  have KDi : Kept ((Tryz.prog.info? 31).map (·.size) = some DL.toArray.size) := ⟨by rw [KDs.out]; exact info_id⟩
  have KDo : Kept (DL.toArray.all (·.oneCell') = true) := ⟨by
    rw [← hDV, Array.all_eq_true_iff_forall_mem]
    intro x hx
    exact Sh.cellsU8_one _ x (by simpa using hx)⟩
  rw [hDV] at K1 KSum KSame
  have K1 := Kept.mk K1
  have KBa := Kept.mk blA
  have KG := Kept.mk hg
  clear hDV hdl rdA blA hg
  go_enter Tryz.func5, Tryz.ntmps5
  go_wp2_with (rw [cvA])
  refine Calls.mono K1.out (fun e w1 hp => ?_)
  obtain ⟨rfl, hb1⟩ := hp
  have KB1 := Kept.mk (KBa.out.trans (hb1.mono KBa.out.size))
  clear hb1 cvA K1 KBa
  go_wp2_with (first | (refine BigFrame.wpList_want rfl (fun K hK => wp_store_row 31 _ _ rfl w1.heap.size DL.toArray rfl rfl 31 _ (heap_alloc_new w1 _) KDi.out (by rw [KDs.out]; rfl) KDo.out (hK _ _ ?_)); rw [World.setRow_alloc_new]))
  generalize hO : Obj.cells (_ : Array Value) 33 = O
  obtain ⟨EE, rfl, hEnt⟩ : ∃ E, O = Obj.cells E 33 ∧ Ent E 33188 ⟨#[97]⟩ := by
    subst hO
    exact ⟨_, rfl, ent_of _ (by kernel_rfl) (by kernel_rfl) (by kernel_rfl) (by kernel_rfl) (by kernel_rfl)⟩
  have hx0 := heap_alloc_new w1 (.cells DL.toArray 31)
  have hB2 : Below w1.heap.size w1 ((w1.alloc (.cells DL.toArray 31)).alloc (.cells EE 33)) := ((Below.refl _ _).alloc (Nat.le_refl _) _).alloc (by simp) _
  have hx1 := heap_alloc_new (w1.alloc (.cells DL.toArray 31)) (.cells EE 33)
  rw [show (w1.alloc (.cells DL.toArray 31)).heap.size = w1.heap.size + 1 by simp] at hx1
  have hx0' : ((w1.alloc (.cells DL.toArray 31)).alloc (.cells EE 33)).heap[w1.heap.size]? = some (.cells DL.toArray 31) := by
    rw [((Below.refl (w1.heap.size + 1) (w1.alloc (.cells DL.toArray 31))).alloc (by simp) (.cells EE 33)).block w1.heap.size (by omega)]
    exact hx0
  have hxs : ((w1.alloc (.cells DL.toArray 31)).alloc (.cells EE 33)).heap.size = w1.heap.size + 2 := by simp
  obtain ⟨x2, hx2⟩ : ∃ x2, (w1.alloc (.cells DL.toArray 31)).alloc (.cells EE 33) = x2 := ⟨_, rfl⟩
  rw [hx2] at hB2 hx1 hx0' hxs ⊢
  have KB2 := Kept.mk (KB1.out.trans (hB2.mono KB1.out.size))
  have KDr : Kept (∀ w', Below x2.heap.size x2 w' → w'.heap[w1.heap.size]? = some (.cells DL.toArray 31)) := ⟨fun w' h => by rw [h.block _ (by omega)]; exact hx0'⟩
  have KP := Kept.mk (putTree_one hEnt x2 (KG.out.later KB2.out) hx1)
  clear hx0 hB2 hx1 hx0' hxs hx2 hEnt
  refine Calls.mono KP.out (fun e w3 hp => ?_)
  obtain ⟨pv, rfl, hown, hb3⟩ := hp
  obtain ⟨pb, po, pc, hpv, hpb, hpl, hpm, -, hpc⟩ := hown.rd.open (by decide)
  have hpv : pv = .slice (some ⟨pb, po, none⟩) 41 pc := hpv
  have hpl : 41 ≤ pc := hpl
  subst hpv
  have KPc : Kept (∀ W, Below w3.heap.size w3 W → (convert 27 9 (.slice (some ⟨pb, po, none⟩) 9 pc)).run Tryz.prog W = .ok (.string ⟨#[49, 48, 48, 54, 52, 52, 32, 97, 0]⟩) W) := ⟨fun W hW => by
    have hr : Rd .u8 anyB W (.slice (some ⟨pb, po, none⟩) 9 pc) [49, 48, 48, 54, 52, 52, 32, 97, 0] := by
      refine ⟨some ⟨pb, po, none⟩, pc, rfl, by simp; omega, hpm, (fun h => by cases h), fun _ => ⟨pb, po, rfl, Nat.lt_of_lt_of_le hpb hW.size, trivial, fun i hi => ?_⟩⟩
      have hi' : i < 9 := by simpa using hi
      rw [hW.cell (p := ⟨pb, po + i, none⟩) hpb, hpc i (by simp; omega)]
      congr 2
      have : i = 0 ∨ i = 1 ∨ i = 2 ∨ i = 3 ∨ i = 4 ∨ i = 5 ∨ i = 6 ∨ i = 7 ∨ i = 8 := by omega
      rcases this with rfl | rfl | rfl | rfl | rfl | rfl | rfl | rfl | rfl <;> rfl
    exact hr.str Tryz.underlying27 Tryz.underlying5 9 Tryz.underlying9⟩
  have KB3 := Kept.mk (KB2.out.trans (hb3.mono KB2.out.size))
  obtain ⟨wb, cvB, rdB, blB⟩ := lit_step w3.drew [98, 108, 111, 98, 32, 51, 0, 97, 98, 99] (by simp)
  have cvB : (convert 27 27 (.slice (some ⟨w3.heap.size, 0, none⟩) 10 10)).run Tryz.prog ((w3.alloc (.cells #[.int .u8 98, .int .u8 108, .int .u8 111, .int .u8 98, .int .u8 32, .int .u8 51, .int .u8 0, .int .u8 97, .int .u8 98, .int .u8 99] 5)).drew) = .ok (.slice (some ⟨w3.heap.size, 0, none⟩) 10 10) wb := cvB
  have hb0 : Below w3.heap.size w3 w3.drew := (Below.refl _ _).drew
  have hb1 : Below w3.heap.size w3 ((w3.alloc (.cells #[.int .u8 98, .int .u8 108, .int .u8 111, .int .u8 98, .int .u8 32, .int .u8 51, .int .u8 0, .int .u8 97, .int .u8 98, .int .u8 99] 5)).drew) := hb0.alloc (Nat.le_refl _) _
  have hb2 : Below w3.heap.size w3 wb := hb0.trans blB
  have hrg : ∀ W, Below w3.heap.size w3 W → W.rangeAt w1.heap.size 0 DL := fun W hW => by
    intro k u hu
    have hrow := KDr.out W (hb3.trans (hW.mono hb3.size))
    rw [Nat.zero_add, cell_of_row W w1.heap.size k _ _ (0, 0) hrow, List.getElem?_toArray]
    exact hu
  have KD0 := Kept.mk hb0
  have KD1 := Kept.mk hb1
  have hR0 := hrg _ hb0
  have hR1 := hrg _ hb1
  have hR2 := hrg _ hb2
  have KS := Kept.mk (KSum.out wb _ (KB3.out.trans (hb2.mono KB3.out.size)) rdB)
  have Krg := Kept.mk hrg
  have K3b := Kept.mk hb2
  have hDi := KDi.out
  rw [List.size_toArray] at hDi
  have hu29 := Tryz.underlying31
  have KOq := Kept.mk hown
  have hq1 : (9 : Int) ≤ (pc : Int) := by omega
  clear hown hb3 KP hb0 hb1 hb2 hrg rdB blB hpc hpb
  have hsame := KSame.out
  have hS0 : w3.drew.rangeAt w1.heap.size 0 DL ∧ (convert 27 9 (.slice (some ⟨pb, po, none⟩) 9 pc)).run Tryz.prog w3.drew = .ok (.string ⟨#[49, 48, 48, 54, 52, 52, 32, 97, 0]⟩) w3.drew := ⟨hR0, KPc.out _ KD0.out⟩
  have hS1 : ((w3.alloc (.cells #[.int .u8 98, .int .u8 108, .int .u8 111, .int .u8 98, .int .u8 32, .int .u8 51, .int .u8 0, .int .u8 97, .int .u8 98, .int .u8 99] 5)).drew).rangeAt w1.heap.size 0 DL ∧ (convert 27 9 (.slice (some ⟨pb, po, none⟩) 9 pc)).run Tryz.prog ((w3.alloc (.cells #[.int .u8 98, .int .u8 108, .int .u8 111, .int .u8 98, .int .u8 32, .int .u8 51, .int .u8 0, .int .u8 97, .int .u8 98, .int .u8 99] 5)).drew) = .ok (.string ⟨#[49, 48, 48, 54, 52, 52, 32, 97, 0]⟩) ((w3.alloc (.cells #[.int .u8 98, .int .u8 108, .int .u8 111, .int .u8 98, .int .u8 32, .int .u8 51, .int .u8 0, .int .u8 97, .int .u8 98, .int .u8 99] 5)).drew) := ⟨hR1, KPc.out _ KD1.out⟩
  have hS2 : wb.rangeAt w1.heap.size 0 DL ∧ (convert 27 9 (.slice (some ⟨pb, po, none⟩) 9 pc)).run Tryz.prog wb = .ok (.string ⟨#[49, 48, 48, 54, 52, 52, 32, 97, 0]⟩) wb := ⟨hR2, KPc.out _ K3b.out⟩
  have KS0 := Kept.mk hS0
  have KS1 := Kept.mk hS1
  have KS2 := Kept.mk hS2
  clear hR0 hR1 hR2 hS0 hS1 hS2
  go_wp2_with fail
  refine wp_region_noPanic ?_
  refine wp_region_held_drew (S := fun W => W.rangeAt w1.heap.size 0 DL ∧ (convert 27 9 (.slice (some ⟨pb, po, none⟩) 9 pc)).run Tryz.prog W = .ok (.string ⟨#[49, 48, 48, 54, 52, 52, 32, 97, 0]⟩) W) (by kernel_rfl) KS0.out (fun hHeld => ?_)
  refine wpAnyH_takeD (i := 0) (d := some 18) (v := .int .i64 0) rfl rfl (by kernel_rfl) (by kernel_rfl) (by kernel_rfl) (fun _ _ _ h => h) (Or.inl ⟨by rfl, fun W hSw => by (try dsimp only at hSw); go_simp⟩) (by assumption) ?_
  simp only [Act.put, List.setIfInBounds_toArray, List.set_cons_zero, List.set_cons_succ]
  refine wpAnyH_takeD (i := 1) (d := some 19) (v := .bool true) rfl rfl (by kernel_rfl) (by kernel_rfl) (by kernel_rfl) (fun _ _ _ h => h) (Or.inl ⟨by rfl, fun W hSw => by (try dsimp only at hSw); go_simp⟩) (by assumption) ?_
  simp only [Act.put, List.setIfInBounds_toArray, List.set_cons_zero, List.set_cons_succ]
  refine wpAnyH_takeD (i := 2) (d := some 20) (v := .bool true) rfl rfl (by kernel_rfl) (by kernel_rfl) (by kernel_rfl) (fun _ _ _ h => h) (Or.inl ⟨by rfl, fun W hSw => by (try dsimp only at hSw); go_simp⟩) (by assumption) ?_
  simp only [Act.put, List.setIfInBounds_toArray, List.set_cons_zero, List.set_cons_succ]
  refine wpAnyH_takeD (i := 3) (d := some 21) (v := .int .i64 0) rfl rfl (by kernel_rfl) (by kernel_rfl) (by kernel_rfl) (fun _ _ _ h => h) (Or.inl ⟨by rfl, fun W hSw => by (try dsimp only at hSw); go_simp⟩) (by assumption) ?_
  simp only [Act.put, List.setIfInBounds_toArray, List.set_cons_zero, List.set_cons_succ]
  refine wpAnyH_takeD (i := 4) (d := some 22) (v := .bool true) rfl rfl (by kernel_rfl) (by kernel_rfl) (by kernel_rfl) (fun _ _ _ h => h) (Or.inl ⟨by rfl, fun W hSw => by (try dsimp only at hSw); go_simp⟩) (by assumption) ?_
  simp only [Act.put, List.setIfInBounds_toArray, List.set_cons_zero, List.set_cons_succ]
  refine wpAnyH_takeD (i := 5) (d := some 23) (v := .bool true) rfl rfl (by kernel_rfl) (by kernel_rfl) (by kernel_rfl) (fun _ _ _ h => h) (Or.inl ⟨by rfl, fun W hSw => by (try dsimp only at hSw); go_simp⟩) (by assumption) ?_
  simp only [Act.put, List.setIfInBounds_toArray, List.set_cons_zero, List.set_cons_succ]
  refine wpAnyH_takeD (i := 6) (d := some 24) (v := .bool true) rfl rfl (by kernel_rfl) (by kernel_rfl) (by kernel_rfl) (fun _ _ _ h => h) (Or.inl ⟨by rfl, fun W hSw => by (try dsimp only at hSw); go_simp⟩) (by assumption) ?_
  simp only [Act.put, List.setIfInBounds_toArray, List.set_cons_zero, List.set_cons_succ]
  refine wpAnyH_takeD (i := 7) (d := some 25) (v := .agg DL.toArray) rfl rfl (by kernel_rfl) (by kernel_rfl) (by kernel_rfl) (fun _ _ _ h => h) (yieldsIf_load_mid (by rfl) _ _ rfl _ _ rfl DL _ (fun W hSw => hSw.1) hu29 rfl hDi) (by assumption) ?_
  simp only [Act.put, List.setIfInBounds_toArray, List.set_cons_zero, List.set_cons_succ]
  refine wpAnyH_ready (rs := [8]) (by kernel_rfl) (by simp) ?_
  refine AllReadyH.cons (o := _) rfl (fun K hK => ?_) AllReadyH.nil
  go_simp
  refine hK.out _ _ KS1.out (fun hHeld1 => ?_)
  clear hK K hHeld
  refine wpAnyH_ready (rs := [9]) (by kernel_rfl) (by simp) ?_
  refine AllReadyH.cons (o := _) rfl (fun K hK => ?_) AllReadyH.nil
  go_simp
  refine hK.out _ _ KS2.out (fun hHeld2 => ?_)
  clear hK K hHeld1
  refine wpAnyH_ready (rs := [10]) (by kernel_rfl) (by simp) ?_
  refine AllReadyH.cons (o := _) rfl (fun K hK => ?_) AllReadyH.nil
  go_simp
  refine Calls.mono KS.out (fun e w4 hp => ?_)
  obtain ⟨rfl, hb4⟩ := hp
  have hb34 := K3b.out.trans (hb4.mono K3b.out.size)
  have KB4 := Kept.mk (KB3.out.trans (hb34.mono KB3.out.size))
  refine hK.out _ _ ⟨Krg.out w4 hb34, KPc.out w4 hb34⟩ (fun hHeld3 => ?_)
  clear hK K hHeld2 hb4 hb34
  refine wpAnyH_takeD (i := 11) (d := some 29) (v := .bool true) rfl rfl (by kernel_rfl) (by kernel_rfl) (by kernel_rfl) (fun _ _ _ h => h) (Or.inl ⟨by rfl, fun W hSw => by (try dsimp only at hSw); go_simp⟩) (by assumption) ?_
  simp only [Act.put, List.setIfInBounds_toArray, List.set_cons_zero, List.set_cons_succ]
  refine wpAnyH_takeD (i := 12) (d := some 30) (v := .bool true) rfl rfl (by kernel_rfl) (by kernel_rfl) (by kernel_rfl) (fun _ _ _ h => h) (Or.inl ⟨by rfl, fun W hSw => by (try dsimp only at hSw); go_simp⟩) (by assumption) ?_
  simp only [Act.put, List.setIfInBounds_toArray, List.set_cons_zero, List.set_cons_succ]
  refine wpAnyH_takeD (i := 13) (d := some 31) (v := .bool true) rfl rfl (by kernel_rfl) (by kernel_rfl) (by kernel_rfl) (fun _ _ _ h => h) (Or.inl ⟨by rfl, fun W hSw => by (try dsimp only at hSw); go_simp⟩) (by assumption) ?_
  simp only [Act.put, List.setIfInBounds_toArray, List.set_cons_zero, List.set_cons_succ]
  refine wpAnyH_takeD (i := 14) (d := some 32) (v := .slice (some ⟨pb, po, none⟩) 41 pc) rfl rfl (by kernel_rfl) (by kernel_rfl) (by kernel_rfl) (fun _ _ _ h => h) (Or.inl ⟨by rfl, fun W hSw => by (try dsimp only at hSw); go_simp⟩) (by assumption) ?_
  simp only [Act.put, List.setIfInBounds_toArray, List.set_cons_zero, List.set_cons_succ]
  refine wpAnyH_takeD (i := 15) (d := some 33) (v := .int .i64 41) rfl rfl (by kernel_rfl) (by kernel_rfl) (by kernel_rfl) (fun _ _ _ h => h) (Or.inl ⟨by rfl, fun W hSw => by (try dsimp only at hSw); go_simp⟩) (by assumption) ?_
  simp only [Act.put, List.setIfInBounds_toArray, List.set_cons_zero, List.set_cons_succ]
  refine wpAnyH_takeD (i := 16) (d := some 34) (v := .bool true) rfl rfl (by kernel_rfl) (by kernel_rfl) (by kernel_rfl) (fun _ _ _ h => h) (Or.inl ⟨by rfl, fun W hSw => by (try dsimp only at hSw); go_simp⟩) (by assumption) ?_
  simp only [Act.put, List.setIfInBounds_toArray, List.set_cons_zero, List.set_cons_succ]
  refine wpAnyH_takeD (i := 17) (d := some 35) (v := .bool true) rfl rfl (by kernel_rfl) (by kernel_rfl) (by kernel_rfl) (fun _ _ _ h => h) (Or.inl ⟨by rfl, fun W hSw => by (try dsimp only at hSw); go_simp⟩) (by assumption) ?_
  simp only [Act.put, List.setIfInBounds_toArray, List.set_cons_zero, List.set_cons_succ]
  refine wpAnyH_takeD (i := 18) (d := some 36) (v := .bool true) rfl rfl (by kernel_rfl) (by kernel_rfl) (by kernel_rfl) (fun _ _ _ h => h) (Or.inl ⟨by rfl, fun W hSw => by (try dsimp only at hSw); go_simp⟩) (by assumption) ?_
  simp only [Act.put, List.setIfInBounds_toArray, List.set_cons_zero, List.set_cons_succ]
  refine wpAnyH_takeD (i := 19) (d := some 37) (v := .slice (some ⟨pb, po, none⟩) 41 pc) rfl rfl (by kernel_rfl) (by kernel_rfl) (by kernel_rfl) (fun _ _ _ h => h) (Or.inl ⟨by rfl, fun W hSw => by (try dsimp only at hSw); go_simp⟩) (by assumption) ?_
  simp only [Act.put, List.setIfInBounds_toArray, List.set_cons_zero, List.set_cons_succ]
  refine wpAnyH_takeD (i := 20) (d := some 38) (v := .slice (some ⟨pb, po, none⟩) 9 pc) rfl rfl (by kernel_rfl) (by kernel_rfl) (by kernel_rfl) (fun _ _ _ h => h) (Or.inl ⟨by rfl, fun W hSw => by (try dsimp only at hSw); go_simp⟩) (by assumption) ?_
  simp only [Act.put, List.setIfInBounds_toArray, List.set_cons_zero, List.set_cons_succ]
  refine wpAnyH_takeD (i := 21) (d := some 39) (v := .string ⟨#[49, 48, 48, 54, 52, 52, 32, 97, 0]⟩) rfl rfl (by kernel_rfl) (by kernel_rfl) (by kernel_rfl) (fun _ _ _ h => h) (Or.inl ⟨by rfl, fun W hSw => by (try dsimp only at hSw); go_simp⟩) (by assumption) ?_
  simp only [Act.put, List.setIfInBounds_toArray, List.set_cons_zero, List.set_cons_succ]
  refine wpAnyH_takeD (i := 22) (d := some 40) (v := .bool true) rfl rfl (by kernel_rfl) (by kernel_rfl) (by kernel_rfl) (fun _ _ _ h => h) (Or.inl ⟨by rfl, fun W hSw => by (try dsimp only at hSw); go_simp⟩) (by assumption) ?_
  simp only [Act.put, List.setIfInBounds_toArray, List.set_cons_zero, List.set_cons_succ]
  refine wpAnyH_takeD (i := 23) (d := some 41) (v := .bool true) rfl rfl (by kernel_rfl) (by kernel_rfl) (by kernel_rfl) (fun _ _ _ h => h) (Or.inl ⟨by rfl, fun W hSw => by (try dsimp only at hSw); go_simp⟩) (by assumption) ?_
  simp only [Act.put, List.setIfInBounds_toArray, List.set_cons_zero, List.set_cons_succ]
  refine wpAnyH_takeD (i := 24) (d := some 0) (v := .bool true) rfl rfl (by kernel_rfl) (by kernel_rfl) (by kernel_rfl) (fun _ _ _ h => h) (Or.inl ⟨by rfl, fun W hSw => by (try dsimp only at hSw); go_simp⟩) (by assumption) ?_
  simp only [Act.put, List.setIfInBounds_toArray, List.set_cons_zero]
  refine wpAnyH_done (by kernel_rfl) ?_ _
  refine NoPanic.normal ?_
  go_wp2
  go_ret
  exact ⟨rfl, KB4.out⟩


end Go.Proofs.YtkbalngddlhlpaaGreatDoor
