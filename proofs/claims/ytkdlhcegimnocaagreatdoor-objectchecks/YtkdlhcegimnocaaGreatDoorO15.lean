/-
  The document's basic, Id, DocId.
-/
import Derived.Test.YtkdlhcegimnocaaGreatDoorO10B
import Derived.Test.YtkdlhcegimnocaaGreatDoorQ3
import Derived.Test.YtkdlhcegimnocaaGreatDoorShR
import Derived.Lib.SlBytesConst
import Derived.DeepKeys
import Derived.Deep.RegionHeld3
import Derived.Test.YtkdlhcegimnocaaGreatDoorO2N
namespace Go.Proofs.YtkdlhcegimnocaaGreatDoor
open Go.RowKit

theorem box_ob (w : World) (k : Int) (v : Value) : ∃ w2, w.alloc (.cells #[.int .i64 k, v] 26) = w2 ∧ Below w.heap.size w w2 ∧ w.heap.size < w2.heap.size ∧ ∀ w', Below w2.heap.size w2 w' → w'.cell? ⟨w.heap.size, 0, none⟩ = some (.int .i64 k) ∧ w'.cell? ⟨w.heap.size, 1, none⟩ = some v := by
  have hlt : w.heap.size < (w.alloc (.cells #[.int .i64 k, v] 26)).heap.size := by simp
  refine ⟨_, rfl, (Below.refl _ _).alloc (Nat.le_refl _) _, hlt, fun w' hw => ⟨?_, ?_⟩⟩
  · rw [hw.cell (p := ⟨w.heap.size, 0, none⟩) hlt]
    exact alloc_cell _ _ _ _ _ rfl
  · rw [hw.cell (p := ⟨w.heap.size, 1, none⟩) hlt]
    exact alloc_cell _ _ _ _ _ rfl
set_option maxHeartbeats 2000000 in
set_option maxRecDepth 100000 in
theorem basic_any (k : Int) (a : Option Addr) (n c : Nat) (w : World) (hn : n ≤ 9223372036854775807) : Calls Tryz.prog 20 #[.agg #[.int .i64 k, .slice a n c]] w fun e w' => e = .returned (.int .i64 (idE k n)) ∧ Below w.heap.size w w' := by
  obtain ⟨w2, hw2, hB2, hlt2, hc2⟩ := box_ob w k (.slice a n c)
  have KB2 := Kept.mk hB2
  obtain ⟨c0, c1⟩ := hc2 w2 (Below.refl _ _)
  clear hB2 hc2
  have KW : Kept (∀ w, Calls Tryz.prog 45 #[.int .i64 k] w fun e w' => e = .returned (.string (wdF k)) ∧ w' = w) := ⟨rword_any k⟩
  have hwe := wd_empty k
  generalize wdF k = D at KW hwe
  have KIt : Kept (∀ (e : Int) w, Calls Tryz.prog 44 #[.bool true, .int .i64 e] w fun x w' => x = .returned (.int .i64 e) ∧ w' = w) := ⟨fun e w => if_any true e w⟩
  have KIf : Kept (∀ (e : Int) w, Calls Tryz.prog 44 #[.bool false, .int .i64 e] w fun x w' => x = .returned (.int .i64 0) ∧ w' = w) := ⟨fun e w => if_any false e w⟩
  have KLs : Kept (∀ (a b : Int) (g : Nat) (w : World), w.heap[g]? = some (.cells #[.int .i64 a, .int .i64 b] 28) → Calls Tryz.prog 43 #[.slice (some ⟨g, 0, none⟩) 2 2] w fun e w' => e = .returned (.int .i64 (lsF (lsF 0 a) b)) ∧ w' = w) := ⟨fun a b g w h => least_two a b g w h⟩
  by_cases h1 : 1048576 < n
  · cases hk : isK k
    · have hk' := hwe
      rw [hk] at hk'
      have hwe' : (D.toList == []) = true := hk'
      have hld : decide ((1048576 : Int) < (n : Int)) = true := by simp; omega
      have KE : Kept (idE k n = 2) := ⟨by unfold idE; rw [if_pos h1]⟩
      have K9 : Kept (∀ w, Calls Tryz.prog 44 #[.bool true, .int .i64 9] w fun x w' => x = .returned (.int .i64 9) ∧ w' = w) := ⟨KIt.out 9⟩
      have K2 : Kept (∀ w, Calls Tryz.prog 44 #[.bool true, .int .i64 2] w fun x w' => x = .returned (.int .i64 2) ∧ w' = w) := ⟨KIt.out 2⟩
      clear hwe hk hk' h1 KIt KIf
      go_enter Tryz.func20, Tryz.ntmps20
      go_upto_region 1 with fail
      refine wp_region_tail 0 10 2 (by kernel_rfl) (by kernel_rfl) ?_
      simp only [List.take_succ_cons, List.take_zero, List.drop_succ_cons, List.drop_zero, List.foldl_nil]
      repeat (go_big_quiet_step ((first | (go_at_call 45; exact Calls.quiet_of_same (KW.out _)) | (go_at_call 44; first | exact Calls.quiet_of_same (K9.out _) | exact Calls.quiet_of_same (K2.out _)))))
      refine wpQuiet_nil ?_
      intro m
      have KB3 := Kept.mk (below_drewN KB2.out m)
      generalize w2.drewN m = w3 at *
      have KL := Kept.mk (KLs.out 9 2 w3.heap.size (w3.alloc (.cells #[.int .i64 9, .int .i64 2] 28)) (heap_alloc_new w3 _))
      have KB4 := Kept.mk (KB3.out.alloc KB3.out.size (.cells #[.int .i64 9, .int .i64 2] 28))
      rw [show lsF (lsF 0 9) 2 = 2 by decide] at KL
      refine wpTail_step (fun K hK => ?_)
      go_simp
      refine hK _ _ ?_
      clear hK K
      refine wpTail_step (fun K hK => ?_)
      go_simp
      refine Calls.mono KL.out (fun e w5 hp => ?_)
      obtain ⟨rfl, rfl⟩ := hp
      refine hK _ _ ?_
      clear hK K
      refine wpTail_step (fun K hK => ?_)
      go_simp
      refine hK _ _ (wpTail_nil (NoPanic.normal ?_))
      clear hK K
      go_wp2
      go_ret
      rw [KE.out]
      exact ⟨rfl, KB4.out⟩
    · have hk' := hwe
      rw [hk] at hk'
      have hwe' : (D.toList == []) = false := hk'
      have hld : decide ((1048576 : Int) < (n : Int)) = true := by simp; omega
      have KE : Kept (idE k n = 2) := ⟨by unfold idE; rw [if_pos h1]⟩
      have K9 : Kept (∀ w, Calls Tryz.prog 44 #[.bool false, .int .i64 9] w fun x w' => x = .returned (.int .i64 0) ∧ w' = w) := ⟨KIf.out 9⟩
      have K2 : Kept (∀ w, Calls Tryz.prog 44 #[.bool true, .int .i64 2] w fun x w' => x = .returned (.int .i64 2) ∧ w' = w) := ⟨KIt.out 2⟩
      clear hwe hk hk' h1 KIt KIf
      go_enter Tryz.func20, Tryz.ntmps20
      go_upto_region 1 with fail
      refine wp_region_tail 0 10 2 (by kernel_rfl) (by kernel_rfl) ?_
      simp only [List.take_succ_cons, List.take_zero, List.drop_succ_cons, List.drop_zero, List.foldl_nil]
      repeat (go_big_quiet_step ((first | (go_at_call 45; exact Calls.quiet_of_same (KW.out _)) | (go_at_call 44; first | exact Calls.quiet_of_same (K9.out _) | exact Calls.quiet_of_same (K2.out _)))))
      refine wpQuiet_nil ?_
      intro m
      have KB3 := Kept.mk (below_drewN KB2.out m)
      generalize w2.drewN m = w3 at *
      have KL := Kept.mk (KLs.out 0 2 w3.heap.size (w3.alloc (.cells #[.int .i64 0, .int .i64 2] 28)) (heap_alloc_new w3 _))
      have KB4 := Kept.mk (KB3.out.alloc KB3.out.size (.cells #[.int .i64 0, .int .i64 2] 28))
      rw [show lsF (lsF 0 0) 2 = 2 by decide] at KL
      refine wpTail_step (fun K hK => ?_)
      go_simp
      refine hK _ _ ?_
      clear hK K
      refine wpTail_step (fun K hK => ?_)
      go_simp
      refine Calls.mono KL.out (fun e w5 hp => ?_)
      obtain ⟨rfl, rfl⟩ := hp
      refine hK _ _ ?_
      clear hK K
      refine wpTail_step (fun K hK => ?_)
      go_simp
      refine hK _ _ (wpTail_nil (NoPanic.normal ?_))
      clear hK K
      go_wp2
      go_ret
      rw [KE.out]
      exact ⟨rfl, KB4.out⟩
  · cases hk : isK k
    · have hk' := hwe
      rw [hk] at hk'
      have hwe' : (D.toList == []) = true := hk'
      have hld : decide ((1048576 : Int) < (n : Int)) = false := by simp; omega
      have KE : Kept (idE k n = 9) := ⟨by unfold idE; rw [if_neg h1, hk]; rfl⟩
      have K9 : Kept (∀ w, Calls Tryz.prog 44 #[.bool true, .int .i64 9] w fun x w' => x = .returned (.int .i64 9) ∧ w' = w) := ⟨KIt.out 9⟩
      have K2 : Kept (∀ w, Calls Tryz.prog 44 #[.bool false, .int .i64 2] w fun x w' => x = .returned (.int .i64 0) ∧ w' = w) := ⟨KIf.out 2⟩
      clear hwe hk hk' h1 KIt KIf
      go_enter Tryz.func20, Tryz.ntmps20
      go_upto_region 1 with fail
      refine wp_region_tail 0 10 2 (by kernel_rfl) (by kernel_rfl) ?_
      simp only [List.take_succ_cons, List.take_zero, List.drop_succ_cons, List.drop_zero, List.foldl_nil]
      repeat (go_big_quiet_step ((first | (go_at_call 45; exact Calls.quiet_of_same (KW.out _)) | (go_at_call 44; first | exact Calls.quiet_of_same (K9.out _) | exact Calls.quiet_of_same (K2.out _)))))
      refine wpQuiet_nil ?_
      intro m
      have KB3 := Kept.mk (below_drewN KB2.out m)
      generalize w2.drewN m = w3 at *
      have KL := Kept.mk (KLs.out 9 0 w3.heap.size (w3.alloc (.cells #[.int .i64 9, .int .i64 0] 28)) (heap_alloc_new w3 _))
      have KB4 := Kept.mk (KB3.out.alloc KB3.out.size (.cells #[.int .i64 9, .int .i64 0] 28))
      rw [show lsF (lsF 0 9) 0 = 9 by decide] at KL
      refine wpTail_step (fun K hK => ?_)
      go_simp
      refine hK _ _ ?_
      clear hK K
      refine wpTail_step (fun K hK => ?_)
      go_simp
      refine Calls.mono KL.out (fun e w5 hp => ?_)
      obtain ⟨rfl, rfl⟩ := hp
      refine hK _ _ ?_
      clear hK K
      refine wpTail_step (fun K hK => ?_)
      go_simp
      refine hK _ _ (wpTail_nil (NoPanic.normal ?_))
      clear hK K
      go_wp2
      go_ret
      rw [KE.out]
      exact ⟨rfl, KB4.out⟩
    · have hk' := hwe
      rw [hk] at hk'
      have hwe' : (D.toList == []) = false := hk'
      have hld : decide ((1048576 : Int) < (n : Int)) = false := by simp; omega
      have KE : Kept (idE k n = 0) := ⟨by unfold idE; rw [if_neg h1, hk]; rfl⟩
      have K9 : Kept (∀ w, Calls Tryz.prog 44 #[.bool false, .int .i64 9] w fun x w' => x = .returned (.int .i64 0) ∧ w' = w) := ⟨KIf.out 9⟩
      have K2 : Kept (∀ w, Calls Tryz.prog 44 #[.bool false, .int .i64 2] w fun x w' => x = .returned (.int .i64 0) ∧ w' = w) := ⟨KIf.out 2⟩
      clear hwe hk hk' h1 KIt KIf
      go_enter Tryz.func20, Tryz.ntmps20
      go_upto_region 1 with fail
      refine wp_region_tail 0 10 2 (by kernel_rfl) (by kernel_rfl) ?_
      simp only [List.take_succ_cons, List.take_zero, List.drop_succ_cons, List.drop_zero, List.foldl_nil]
      repeat (go_big_quiet_step ((first | (go_at_call 45; exact Calls.quiet_of_same (KW.out _)) | (go_at_call 44; first | exact Calls.quiet_of_same (K9.out _) | exact Calls.quiet_of_same (K2.out _)))))
      refine wpQuiet_nil ?_
      intro m
      have KB3 := Kept.mk (below_drewN KB2.out m)
      generalize w2.drewN m = w3 at *
      have KL := Kept.mk (KLs.out 0 0 w3.heap.size (w3.alloc (.cells #[.int .i64 0, .int .i64 0] 28)) (heap_alloc_new w3 _))
      have KB4 := Kept.mk (KB3.out.alloc KB3.out.size (.cells #[.int .i64 0, .int .i64 0] 28))
      rw [show lsF (lsF 0 0) 0 = 0 by decide] at KL
      refine wpTail_step (fun K hK => ?_)
      go_simp
      refine hK _ _ ?_
      clear hK K
      refine wpTail_step (fun K hK => ?_)
      go_simp
      refine Calls.mono KL.out (fun e w5 hp => ?_)
      obtain ⟨rfl, rfl⟩ := hp
      refine hK _ _ ?_
      clear hK K
      refine wpTail_step (fun K hK => ?_)
      go_simp
      refine hK _ _ (wpTail_nil (NoPanic.normal ?_))
      clear hK K
      go_wp2
      go_ret
      rw [KE.out]
      exact ⟨rfl, KB4.out⟩
theorem Rd.litF (k : IntKind) (w : World) (xs : List Int) (t : TypeId) (fr : Nat × Nat) (h : xs.length ≤ 1000) : Rd k (fun g => g = w.heap.size) (w.alloc (.cells (cellsK k xs).toArray t fr)) (.slice (some ⟨w.heap.size, 0, none⟩) xs.length xs.length) xs := by
  refine ⟨some ⟨w.heap.size, 0, none⟩, xs.length, rfl, Nat.le_refl _, by unfold maxLen; omega, (fun h => by cases h), fun _ => ⟨w.heap.size, 0, rfl, by simp, rfl, fun i hi => ?_⟩⟩
  have hh := heap_alloc_new w (.cells (cellsK k xs).toArray t fr)
  simp only [Nat.zero_add, World.cell?, hh]
  simp [cellsK, List.getD, List.getElem?_eq_getElem hi]
theorem conv_const (w : World) (C : Array Value) (n c : Nat) : (convert 22 22 (.slice (some ⟨w.heap.size, 0, none⟩) n c)).run Tryz.prog (w.alloc (.cells C 5)) = .ok (.slice (some ⟨w.heap.size, 0, none⟩) n c) (w.alloc (.cells C 5 (C.size, C.size + 1))) :=
  Lib.run_convert_bytes_const w _ _ C n c Tryz.underlying22 Tryz.underlying5

theorem lit_step (w : World) (xs : List Int) (h : xs.length ≤ 1000) : ∃ wa, (convert 22 22 (.slice (some ⟨w.heap.size, 0, none⟩) xs.length xs.length)).run Tryz.prog (w.alloc (.cells (cellsK .u8 xs).toArray 5)) = .ok (.slice (some ⟨w.heap.size, 0, none⟩) xs.length xs.length) wa ∧
    Rd .u8 anyB wa (.slice (some ⟨w.heap.size, 0, none⟩) xs.length xs.length) xs ∧ Below w.heap.size w wa :=
  ⟨_, conv_const w _ _ _, (Rd.litF .u8 w xs 5 _ h).any, (Below.refl w.heap.size w).alloc (Nat.le_refl _) _⟩

theorem run_eqItems_same {P : Program} (w : World) (d : Nat) (e : TypeId) (q : IntKind) (hu : P.underlying e = some (.int q)) (hpk : P.plainKey e = true) (xs : Array Value) :
    ∀ (is : List Nat), (∀ i ∈ is, ∃ n, xs[i * 1]? = some (.int q n)) → (Op.eqItems (d + 1) e 1 xs xs is).run P w = .ok true w
  | [], _ => by simp [Op.eqItems]
  | i :: is, h => by
    obtain ⟨n, hn⟩ := h i (by simp)
    have hp := run_part_plain (P := P) (w := w) hpk hn
    have he := run_equalIn_int (P := P) w d e q q n n hu
    simp only [Op.eqItems, Sem.run_bind, hp, he, Result.andThen_ok, BEq.rfl, Bool.not_true, Bool.false_eq_true, if_false]
    exact run_eqItems_same w d e q hu hpk xs is (fun j hj => h j (by simp [hj]))
theorem run_same_row {P : Program} (w : World) (t e : TypeId) (n : Nat) (q : IntKind) (i : TypeInfo) (ht : P.underlying t = some (.array n e)) (hu : P.underlying e = some (.int q)) (hpk : P.plainKey e = true) (hi : P.info? e = some i) (hce : P.cellsOf e = 1) (l : List Int) (hl : l.length = n) :
    (Op.equalIn 10000 t (.agg (l.map (Value.int q)).toArray) (.agg (l.map (Value.int q)).toArray)).run P w = .ok true w := by
  have h := run_eqItems_same (P := P) w 9998 e q hu hpk (l.map (Value.int q)).toArray (List.range n) (fun i hi => by
    have := List.mem_range.1 hi
    exact ⟨l.getD i 0, by simp [List.getD, List.getElem?_eq_getElem (show i < l.length by omega)]⟩)
  rw [show (10000 : Nat) = 9999 + 1 from rfl, run_equalIn_array (P := P) w 9999 _ _ ht hi, hce]
  exact h
theorem same_id (w : World) (l : List Int) (hl : l.length = 32) : (Op.equalIn 10000 39 (.agg (idV l)) (.agg (idV l))).run Tryz.prog w = .ok true w := by
  obtain ⟨i, _, hi, _⟩ := info8
  exact run_same_row w 39 5 32 .u8 i Tryz.underlying39 Tryz.underlying5 (by kernel_rfl) hi (by kernel_rfl) l hl
theorem allS_lit {xs : List Int} (h : xs.all (fun x => decide (0 ≤ x ∧ x < 256)) = true) : Sh.AllB xs := by
  intro x hx
  have := List.all_eq_true.1 h x hx
  simpa using this
theorem dec3 : Lib.decDigits 3 = [51] := by rw [Lib.decDigits, dif_pos (by omega)]; rfl
theorem hd33 : strL (hdB 3 3) = [98, 108, 111, 98, 32, 51, 0] := by
  unfold hdB
  simp only [Lib.itoa]
  rw [if_neg (by omega), show (3 : Int).toNat = 3 from rfl, dec3]
  rfl
theorem id_abc : idR 3 [97, 98, 99] = Sh.digF (Sh.sumS Sh.ksK [98, 108, 111, 98, 32, 51, 0, 97, 98, 99]).list ∧ idE 3 3 = 0 := by
  have h : idE 3 3 = 0 := by decide
  refine ⟨?_, h⟩
  unfold idR
  rw [if_pos (show idE 3 ([97, 98, 99] : List Int).length = 0 from h)]
  unfold idL
  rw [show (([97, 98, 99] : List Int).length : Int) = 3 from rfl, hd33]
  rfl
def isZ : Option Value → Bool
  | some (.int .u8 0) => true
  | _ => false
theorem isZ_eq {o : Option Value} (h : isZ o = true) : o = some (.int .u8 0) := by
  unfold isZ at h
  split at h
  · rfl
  · cases h
theorem ent_of {m : Int} {nm : ByteArray} (E : Array Value) (h1 : E.size = 34) (h2 : E[0]? = some (.int .i64 m)) (h3 : E[1]? = some (.string nm)) (h4 : E.all (·.oneCell') = true) (h5 : ((List.range 32).all fun i => isZ (E[2 + i]?)) = true) : Ent E m nm :=
  ⟨h1, h2, h3, h4, fun i hi => isZ_eq (List.all_eq_true.1 h5 i (List.mem_range.2 hi))⟩
theorem wpAnyH_takeD {P : Program} {md : Region.Mode} {ops : Array Oper} {Q : Exit → Act → World → Prop} {S : World → Prop} {i : Nat} {oi : Oper} {d : Option Tmp} {v : Value} {fuel : Nat} {listed : Array Bool} {a : Act} {w : World} (hi : ops[i]? = some oi) (hd : oi.dst = d)
    (hs : Region.noSelect ops = true) (hf : Region.free md ops listed i = true) (hr : (Region.ready md ops listed).contains i = true)
    (hQ : ∀ c a w, Q (.panic c) (a.put oi.dst v) w → Q (.panic c) a w) (hy : YieldsIf P ops S oi v a) (hS : S w)
    (h : wpAnyH P md ops Q S fuel (listed.setIfInBounds i true) (a.put d v) w) : wpAnyH P md ops Q S (fuel + 1) listed a w := by
  subst hd
  exact wpAnyH_take hi hs hf hr hQ hy hS h
set_option maxHeartbeats 1000000 in
set_option maxRecDepth 100000 in
theorem awake_any (w : World) (hg : Gv w) : Calls Tryz.prog 4 #[] w fun e w' => e = .returned (.bool true) ∧ Below w.heap.size w w' := by
  obtain ⟨wa, cvA, rdA, blA⟩ := lit_step w [97, 98, 99] (by simp)
  have cvA : (convert 22 22 (.slice (some ⟨w.heap.size, 0, none⟩) 3 3)).run Tryz.prog (w.alloc (.cells #[.int .u8 97, .int .u8 98, .int .u8 99] 5)) = .ok (.slice (some ⟨w.heap.size, 0, none⟩) 3 3) wa := cvA
  have K1 := id_any 3 _ [97, 98, 99] wa (hg.later blA) rdA (allS_lit rfl)
  rw [show ([97, 98, 99] : List Int).length = 3 from rfl] at K1
  rw [id_abc.1, id_abc.2] at K1
  have hdl := Sh.digF_length (Sh.sumS Sh.ksK [98, 108, 111, 98, 32, 51, 0, 97, 98, 99]).list
  have KSum : Kept (∀ w' v, Below w.heap.size w w' → Rd .u8 anyB w' v [98, 108, 111, 98, 32, 51, 0, 97, 98, 99] → Calls Tryz.prog 13 #[v] w' fun e w2 => e = .returned (.agg (idV (Sh.digF (Sh.sumS Sh.ksK [98, 108, 111, 98, 32, 51, 0, 97, 98, 99]).list))) ∧ Below w'.heap.size w' w2) := ⟨fun w' v h hr => Sh.sum_any v _ Sh.ksK w' (shRd hr (allS_lit rfl)) Sh.ksK_length (hg.later h).rnd⟩
  generalize Sh.digF (Sh.sumS Sh.ksK [98, 108, 111, 98, 32, 51, 0, 97, 98, 99]).list = dl at *
  have KSame : Kept (∀ w, (Op.equalIn 10000 39 (.agg (idV dl)) (.agg (idV dl))).run Tryz.prog w = .ok true w) := ⟨fun w => same_id w dl hdl⟩
  obtain ⟨DL, hDV⟩ : ∃ DL, Sh.cellsU8 dl = DL := ⟨_, rfl⟩
  unfold idV at K1 KSum KSame
  have KDs : Kept (DL.toArray.size = 32) := ⟨by rw [← hDV, List.size_toArray, Sh.cellsU8_length, hdl]⟩
  have KDi : Kept ((Tryz.prog.info? 39).map (·.size) = some DL.toArray.size) := ⟨by rw [KDs.out]; exact info_id⟩
  have KDo : Kept (DL.toArray.all (·.oneCell') = true) := ⟨by
    rw [← hDV, Array.all_eq_true_iff_forall_mem]
    intro x hx
    exact Sh.cellsU8_one _ x (by simpa using hx)⟩
  rw [hDV] at K1 KSum KSame
  have K1 := Kept.mk K1
  have KBa := Kept.mk blA
  have KG := Kept.mk hg
  clear hDV hdl rdA blA hg
  go_enter Tryz.func4, Tryz.ntmps4
  go_wp2_with (rw [cvA])
  refine Calls.mono K1.out (fun e w1 hp => ?_)
  obtain ⟨rfl, hb1⟩ := hp
  have KB1 := Kept.mk (KBa.out.trans (hb1.mono KBa.out.size))
  clear hb1 cvA K1 KBa
  go_wp2_with (first | (refine BigFrame.wpList_want rfl (fun K hK => wp_store_row 39 _ _ rfl w1.heap.size DL.toArray rfl rfl 39 _ (heap_alloc_new w1 _) KDi.out (by rw [KDs.out]; rfl) KDo.out (hK _ _ ?_)); rw [World.setRow_alloc_new]))
  generalize hO : Obj.cells (_ : Array Value) 45 = O
  obtain ⟨EE, rfl, hEnt⟩ : ∃ E, O = Obj.cells E 45 ∧ Ent E 33188 ⟨#[97]⟩ := by
    subst hO
    exact ⟨_, rfl, ent_of _ (by kernel_rfl) (by kernel_rfl) (by kernel_rfl) (by kernel_rfl) (by kernel_rfl)⟩
  have hx0 := heap_alloc_new w1 (.cells DL.toArray 39)
  have hB2 : Below w1.heap.size w1 ((w1.alloc (.cells DL.toArray 39)).alloc (.cells EE 45)) := ((Below.refl _ _).alloc (Nat.le_refl _) _).alloc (by simp) _
  have hx1 := heap_alloc_new (w1.alloc (.cells DL.toArray 39)) (.cells EE 45)
  rw [show (w1.alloc (.cells DL.toArray 39)).heap.size = w1.heap.size + 1 by simp] at hx1
  have hx0' : ((w1.alloc (.cells DL.toArray 39)).alloc (.cells EE 45)).heap[w1.heap.size]? = some (.cells DL.toArray 39) := by
    rw [((Below.refl (w1.heap.size + 1) (w1.alloc (.cells DL.toArray 39))).alloc (by simp) (.cells EE 45)).block w1.heap.size (by omega)]
    exact hx0
  have hxs : ((w1.alloc (.cells DL.toArray 39)).alloc (.cells EE 45)).heap.size = w1.heap.size + 2 := by simp
  obtain ⟨x2, hx2⟩ : ∃ x2, (w1.alloc (.cells DL.toArray 39)).alloc (.cells EE 45) = x2 := ⟨_, rfl⟩
  rw [hx2] at hB2 hx1 hx0' hxs ⊢
  have KB2 := Kept.mk (KB1.out.trans (hB2.mono KB1.out.size))
  have KDr : Kept (∀ w', Below x2.heap.size x2 w' → w'.heap[w1.heap.size]? = some (.cells DL.toArray 39)) := ⟨fun w' h => by rw [h.block _ (by omega)]; exact hx0'⟩
  have KP := Kept.mk (putTree_one hEnt x2 (KG.out.later KB2.out) hx1)
  clear hx0 hB2 hx1 hx0' hxs hx2 hEnt
  refine Calls.mono KP.out (fun e w3 hp => ?_)
  obtain ⟨pv, rfl, hown, hb3⟩ := hp
  obtain ⟨pb, po, pc, hpv, hpb, hpl, hpm, -, hpc⟩ := hown.rd.open (by decide)
  have hpv : pv = .slice (some ⟨pb, po, none⟩) 41 pc := hpv
  have hpl : 41 ≤ pc := hpl
  subst hpv
  have KPc : Kept (∀ W, Below w3.heap.size w3 W → (convert 22 9 (.slice (some ⟨pb, po, none⟩) 9 pc)).run Tryz.prog W = .ok (.string ⟨#[49, 48, 48, 54, 52, 52, 32, 97, 0]⟩) W) := ⟨fun W hW => by
    have hr : Rd .u8 anyB W (.slice (some ⟨pb, po, none⟩) 9 pc) [49, 48, 48, 54, 52, 52, 32, 97, 0] := by
      refine ⟨some ⟨pb, po, none⟩, pc, rfl, by simp; omega, hpm, (fun h => by cases h), fun _ => ⟨pb, po, rfl, Nat.lt_of_lt_of_le hpb hW.size, trivial, fun i hi => ?_⟩⟩
      have hi' : i < 9 := by simpa using hi
      rw [hW.cell (p := ⟨pb, po + i, none⟩) hpb, hpc i (by simp; omega)]
      congr 2
      have : i = 0 ∨ i = 1 ∨ i = 2 ∨ i = 3 ∨ i = 4 ∨ i = 5 ∨ i = 6 ∨ i = 7 ∨ i = 8 := by omega
      rcases this with rfl | rfl | rfl | rfl | rfl | rfl | rfl | rfl | rfl <;> rfl
    exact hr.str Tryz.underlying22 Tryz.underlying5 9 Tryz.underlying9⟩
  have KB3 := Kept.mk (KB2.out.trans (hb3.mono KB2.out.size))
  obtain ⟨wb, cvB, rdB, blB⟩ := lit_step w3.drew [98, 108, 111, 98, 32, 51, 0, 97, 98, 99] (by simp)
  have cvB : (convert 22 22 (.slice (some ⟨w3.heap.size, 0, none⟩) 10 10)).run Tryz.prog ((w3.alloc (.cells #[.int .u8 98, .int .u8 108, .int .u8 111, .int .u8 98, .int .u8 32, .int .u8 51, .int .u8 0, .int .u8 97, .int .u8 98, .int .u8 99] 5)).drew) = .ok (.slice (some ⟨w3.heap.size, 0, none⟩) 10 10) wb := cvB
  have hb0 : Below w3.heap.size w3 w3.drew := (Below.refl _ _).drew
  have hb1 : Below w3.heap.size w3 ((w3.alloc (.cells #[.int .u8 98, .int .u8 108, .int .u8 111, .int .u8 98, .int .u8 32, .int .u8 51, .int .u8 0, .int .u8 97, .int .u8 98, .int .u8 99] 5)).drew) := hb0.alloc (Nat.le_refl _) _
  have hb2 : Below w3.heap.size w3 wb := hb0.trans blB
  have hrg : ∀ W, Below w3.heap.size w3 W → W.rangeAt w1.heap.size 0 DL := fun W hW => by
    intro k u hu
    have hrow := KDr.out W (hb3.trans (hW.mono hb3.size))
    rw [Nat.zero_add, cell_of_row W w1.heap.size k _ _ (0, 0) hrow, List.getElem?_toArray]
    exact hu
  have KD0 := Kept.mk hb0
  have KD1 := Kept.mk hb1
  have hR0 := hrg _ hb0
  have hR1 := hrg _ hb1
  have hR2 := hrg _ hb2
  have KS := Kept.mk (KSum.out wb _ (KB3.out.trans (hb2.mono KB3.out.size)) rdB)
  have Krg := Kept.mk hrg
  have K3b := Kept.mk hb2
  have hDi := KDi.out
  rw [List.size_toArray] at hDi
  have hu29 := Tryz.underlying39
  have KOq := Kept.mk hown
  have hq1 : (9 : Int) ≤ (pc : Int) := by omega
  clear hown hb3 KP hb0 hb1 hb2 hrg rdB blB hpc hpb
  have hsame := KSame.out
  have hS0 : w3.drew.rangeAt w1.heap.size 0 DL ∧ (convert 22 9 (.slice (some ⟨pb, po, none⟩) 9 pc)).run Tryz.prog w3.drew = .ok (.string ⟨#[49, 48, 48, 54, 52, 52, 32, 97, 0]⟩) w3.drew := ⟨hR0, KPc.out _ KD0.out⟩
  have hS1 : ((w3.alloc (.cells #[.int .u8 98, .int .u8 108, .int .u8 111, .int .u8 98, .int .u8 32, .int .u8 51, .int .u8 0, .int .u8 97, .int .u8 98, .int .u8 99] 5)).drew).rangeAt w1.heap.size 0 DL ∧ (convert 22 9 (.slice (some ⟨pb, po, none⟩) 9 pc)).run Tryz.prog ((w3.alloc (.cells #[.int .u8 98, .int .u8 108, .int .u8 111, .int .u8 98, .int .u8 32, .int .u8 51, .int .u8 0, .int .u8 97, .int .u8 98, .int .u8 99] 5)).drew) = .ok (.string ⟨#[49, 48, 48, 54, 52, 52, 32, 97, 0]⟩) ((w3.alloc (.cells #[.int .u8 98, .int .u8 108, .int .u8 111, .int .u8 98, .int .u8 32, .int .u8 51, .int .u8 0, .int .u8 97, .int .u8 98, .int .u8 99] 5)).drew) := ⟨hR1, KPc.out _ KD1.out⟩
  have hS2 : wb.rangeAt w1.heap.size 0 DL ∧ (convert 22 9 (.slice (some ⟨pb, po, none⟩) 9 pc)).run Tryz.prog wb = .ok (.string ⟨#[49, 48, 48, 54, 52, 52, 32, 97, 0]⟩) wb := ⟨hR2, KPc.out _ K3b.out⟩
  have KS0 := Kept.mk hS0
  have KS1 := Kept.mk hS1
  have KS2 := Kept.mk hS2
  clear hR0 hR1 hR2 hS0 hS1 hS2
  go_wp2_with fail
  refine wp_region_noPanic ?_
  refine wp_region_held_drew (S := fun W => W.rangeAt w1.heap.size 0 DL ∧ (convert 22 9 (.slice (some ⟨pb, po, none⟩) 9 pc)).run Tryz.prog W = .ok (.string ⟨#[49, 48, 48, 54, 52, 52, 32, 97, 0]⟩) W) (by kernel_rfl) KS0.out (fun hHeld => ?_)
  refine wpAnyH_takeD (i := 0) (d := some 18) (v := .int .i64 0) rfl rfl (by kernel_rfl) (by kernel_rfl) (by kernel_rfl) (fun _ _ _ h => h) (Or.inl ⟨by rfl, fun W hSw => by (try dsimp only at hSw); go_simp⟩) (by assumption) ?_
  simp only [Act.put, List.setIfInBounds_toArray, List.set_cons_zero, List.set_cons_succ]
  refine wpAnyH_takeD (i := 1) (d := some 19) (v := .bool true) rfl rfl (by kernel_rfl) (by kernel_rfl) (by kernel_rfl) (fun _ _ _ h => h) (Or.inl ⟨by rfl, fun W hSw => by (try dsimp only at hSw); go_simp⟩) (by assumption) ?_
  simp only [Act.put, List.setIfInBounds_toArray, List.set_cons_zero, List.set_cons_succ]
  refine wpAnyH_takeD (i := 2) (d := some 20) (v := .bool true) rfl rfl (by kernel_rfl) (by kernel_rfl) (by kernel_rfl) (fun _ _ _ h => h) (Or.inl ⟨by rfl, fun W hSw => by (try dsimp only at hSw); go_simp⟩) (by assumption) ?_
  simp only [Act.put, List.setIfInBounds_toArray, List.set_cons_zero, List.set_cons_succ]
  refine wpAnyH_takeD (i := 3) (d := some 21) (v := .int .i64 0) rfl rfl (by kernel_rfl) (by kernel_rfl) (by kernel_rfl) (fun _ _ _ h => h) (Or.inl ⟨by rfl, fun W hSw => by (try dsimp only at hSw); go_simp⟩) (by assumption) ?_
  simp only [Act.put, List.setIfInBounds_toArray, List.set_cons_zero, List.set_cons_succ]
  refine wpAnyH_takeD (i := 4) (d := some 22) (v := .bool true) rfl rfl (by kernel_rfl) (by kernel_rfl) (by kernel_rfl) (fun _ _ _ h => h) (Or.inl ⟨by rfl, fun W hSw => by (try dsimp only at hSw); go_simp⟩) (by assumption) ?_
  simp only [Act.put, List.setIfInBounds_toArray, List.set_cons_zero, List.set_cons_succ]
  refine wpAnyH_takeD (i := 5) (d := some 23) (v := .bool true) rfl rfl (by kernel_rfl) (by kernel_rfl) (by kernel_rfl) (fun _ _ _ h => h) (Or.inl ⟨by rfl, fun W hSw => by (try dsimp only at hSw); go_simp⟩) (by assumption) ?_
  simp only [Act.put, List.setIfInBounds_toArray, List.set_cons_zero, List.set_cons_succ]
  refine wpAnyH_takeD (i := 6) (d := some 24) (v := .bool true) rfl rfl (by kernel_rfl) (by kernel_rfl) (by kernel_rfl) (fun _ _ _ h => h) (Or.inl ⟨by rfl, fun W hSw => by (try dsimp only at hSw); go_simp⟩) (by assumption) ?_
  simp only [Act.put, List.setIfInBounds_toArray, List.set_cons_zero, List.set_cons_succ]
  refine wpAnyH_takeD (i := 7) (d := some 25) (v := .agg DL.toArray) rfl rfl (by kernel_rfl) (by kernel_rfl) (by kernel_rfl) (fun _ _ _ h => h) (yieldsIf_load_mid (by rfl) _ _ rfl _ _ rfl DL _ (fun W hSw => hSw.1) hu29 rfl hDi) (by assumption) ?_
  simp only [Act.put, List.setIfInBounds_toArray, List.set_cons_zero, List.set_cons_succ]
  refine wpAnyH_ready (rs := [8]) (by kernel_rfl) (by simp) ?_
  refine AllReadyH.cons (o := _) rfl (fun K hK => ?_) AllReadyH.nil
  go_simp
  refine hK.out _ _ KS1.out (fun hHeld1 => ?_)
  clear hK K hHeld
  refine wpAnyH_ready (rs := [9]) (by kernel_rfl) (by simp) ?_
  refine AllReadyH.cons (o := _) rfl (fun K hK => ?_) AllReadyH.nil
  go_simp
  refine hK.out _ _ KS2.out (fun hHeld2 => ?_)
  clear hK K hHeld1
  refine wpAnyH_ready (rs := [10]) (by kernel_rfl) (by simp) ?_
  refine AllReadyH.cons (o := _) rfl (fun K hK => ?_) AllReadyH.nil
  go_simp
  refine Calls.mono KS.out (fun e w4 hp => ?_)
  obtain ⟨rfl, hb4⟩ := hp
  have hb34 := K3b.out.trans (hb4.mono K3b.out.size)
  have KB4 := Kept.mk (KB3.out.trans (hb34.mono KB3.out.size))
  refine hK.out _ _ ⟨Krg.out w4 hb34, KPc.out w4 hb34⟩ (fun hHeld3 => ?_)
  clear hK K hHeld2 hb4 hb34
  refine wpAnyH_takeD (i := 11) (d := some 29) (v := .bool true) rfl rfl (by kernel_rfl) (by kernel_rfl) (by kernel_rfl) (fun _ _ _ h => h) (Or.inl ⟨by rfl, fun W hSw => by (try dsimp only at hSw); go_simp⟩) (by assumption) ?_
  simp only [Act.put, List.setIfInBounds_toArray, List.set_cons_zero, List.set_cons_succ]
  refine wpAnyH_takeD (i := 12) (d := some 30) (v := .bool true) rfl rfl (by kernel_rfl) (by kernel_rfl) (by kernel_rfl) (fun _ _ _ h => h) (Or.inl ⟨by rfl, fun W hSw => by (try dsimp only at hSw); go_simp⟩) (by assumption) ?_
  simp only [Act.put, List.setIfInBounds_toArray, List.set_cons_zero, List.set_cons_succ]
  refine wpAnyH_takeD (i := 13) (d := some 31) (v := .bool true) rfl rfl (by kernel_rfl) (by kernel_rfl) (by kernel_rfl) (fun _ _ _ h => h) (Or.inl ⟨by rfl, fun W hSw => by (try dsimp only at hSw); go_simp⟩) (by assumption) ?_
  simp only [Act.put, List.setIfInBounds_toArray, List.set_cons_zero, List.set_cons_succ]
  refine wpAnyH_takeD (i := 14) (d := some 32) (v := .slice (some ⟨pb, po, none⟩) 41 pc) rfl rfl (by kernel_rfl) (by kernel_rfl) (by kernel_rfl) (fun _ _ _ h => h) (Or.inl ⟨by rfl, fun W hSw => by (try dsimp only at hSw); go_simp⟩) (by assumption) ?_
  simp only [Act.put, List.setIfInBounds_toArray, List.set_cons_zero, List.set_cons_succ]
  refine wpAnyH_takeD (i := 15) (d := some 33) (v := .int .i64 41) rfl rfl (by kernel_rfl) (by kernel_rfl) (by kernel_rfl) (fun _ _ _ h => h) (Or.inl ⟨by rfl, fun W hSw => by (try dsimp only at hSw); go_simp⟩) (by assumption) ?_
  simp only [Act.put, List.setIfInBounds_toArray, List.set_cons_zero, List.set_cons_succ]
  refine wpAnyH_takeD (i := 16) (d := some 34) (v := .bool true) rfl rfl (by kernel_rfl) (by kernel_rfl) (by kernel_rfl) (fun _ _ _ h => h) (Or.inl ⟨by rfl, fun W hSw => by (try dsimp only at hSw); go_simp⟩) (by assumption) ?_
  simp only [Act.put, List.setIfInBounds_toArray, List.set_cons_zero, List.set_cons_succ]
  refine wpAnyH_takeD (i := 17) (d := some 35) (v := .bool true) rfl rfl (by kernel_rfl) (by kernel_rfl) (by kernel_rfl) (fun _ _ _ h => h) (Or.inl ⟨by rfl, fun W hSw => by (try dsimp only at hSw); go_simp⟩) (by assumption) ?_
  simp only [Act.put, List.setIfInBounds_toArray, List.set_cons_zero, List.set_cons_succ]
  refine wpAnyH_takeD (i := 18) (d := some 36) (v := .bool true) rfl rfl (by kernel_rfl) (by kernel_rfl) (by kernel_rfl) (fun _ _ _ h => h) (Or.inl ⟨by rfl, fun W hSw => by (try dsimp only at hSw); go_simp⟩) (by assumption) ?_
  simp only [Act.put, List.setIfInBounds_toArray, List.set_cons_zero, List.set_cons_succ]
  refine wpAnyH_takeD (i := 19) (d := some 37) (v := .slice (some ⟨pb, po, none⟩) 41 pc) rfl rfl (by kernel_rfl) (by kernel_rfl) (by kernel_rfl) (fun _ _ _ h => h) (Or.inl ⟨by rfl, fun W hSw => by (try dsimp only at hSw); go_simp⟩) (by assumption) ?_
  simp only [Act.put, List.setIfInBounds_toArray, List.set_cons_zero, List.set_cons_succ]
  refine wpAnyH_takeD (i := 20) (d := some 38) (v := .slice (some ⟨pb, po, none⟩) 9 pc) rfl rfl (by kernel_rfl) (by kernel_rfl) (by kernel_rfl) (fun _ _ _ h => h) (Or.inl ⟨by rfl, fun W hSw => by (try dsimp only at hSw); go_simp⟩) (by assumption) ?_
  simp only [Act.put, List.setIfInBounds_toArray, List.set_cons_zero, List.set_cons_succ]
  refine wpAnyH_takeD (i := 21) (d := some 39) (v := .string ⟨#[49, 48, 48, 54, 52, 52, 32, 97, 0]⟩) rfl rfl (by kernel_rfl) (by kernel_rfl) (by kernel_rfl) (fun _ _ _ h => h) (Or.inl ⟨by rfl, fun W hSw => by (try dsimp only at hSw); go_simp⟩) (by assumption) ?_
  simp only [Act.put, List.setIfInBounds_toArray, List.set_cons_zero, List.set_cons_succ]
  refine wpAnyH_takeD (i := 22) (d := some 40) (v := .bool true) rfl rfl (by kernel_rfl) (by kernel_rfl) (by kernel_rfl) (fun _ _ _ h => h) (Or.inl ⟨by rfl, fun W hSw => by (try dsimp only at hSw); go_simp⟩) (by assumption) ?_
  simp only [Act.put, List.setIfInBounds_toArray, List.set_cons_zero, List.set_cons_succ]
  refine wpAnyH_takeD (i := 23) (d := some 41) (v := .bool true) rfl rfl (by kernel_rfl) (by kernel_rfl) (by kernel_rfl) (fun _ _ _ h => h) (Or.inl ⟨by rfl, fun W hSw => by (try dsimp only at hSw); go_simp⟩) (by assumption) ?_
  simp only [Act.put, List.setIfInBounds_toArray, List.set_cons_zero, List.set_cons_succ]
  refine wpAnyH_takeD (i := 24) (d := some 0) (v := .bool true) rfl rfl (by kernel_rfl) (by kernel_rfl) (by kernel_rfl) (fun _ _ _ h => h) (Or.inl ⟨by rfl, fun W hSw => by (try dsimp only at hSw); go_simp⟩) (by assumption) ?_
  simp only [Act.put, List.setIfInBounds_toArray, List.set_cons_zero]
  refine wpAnyH_done (by kernel_rfl) ?_ _
  refine NoPanic.normal ?_
  go_wp2
  go_ret
  exact ⟨rfl, KB4.out⟩




structure EnC where
  m : Int
  nm : ByteArray
  ids : List Int
def EnC.l (e : EnC) : List Value := Value.int .i64 e.m :: Value.string e.nm :: cellsK .u8 e.ids
def EnC.ok (e : EnC) : Prop := e.ids.length = 32 ∧ AllIn 0 256 e.ids ∧ -9223372036854775808 ≤ e.m ∧ e.m < 9223372036854775808 ∧ e.nm.size ≤ 140737488355328
def RdE (w : World) (v : Value) (es : List EnC) : Prop :=
  ∃ a c, v = .slice a es.length c ∧ es.length ≤ c ∧ (∀ e ∈ es, e.ok) ∧ (0 < es.length → ∃ b off, a = some ⟨b, off, none⟩ ∧ b < w.heap.size ∧ ∀ i (hi : i < es.length), w.rangeAt b (off + i * 34) (es[i]'hi).l)
theorem RdE.later {w w' : World} {v : Value} {es : List EnC} (h : RdE w v es) (hb : Below w.heap.size w w') : RdE w' v es := by
  obtain ⟨a, c, h1, h2, h3, h4⟩ := h
  refine ⟨a, c, h1, h2, h3, fun h0 => ?_⟩
  obtain ⟨b, off, h5, h6, h7⟩ := h4 h0
  refine ⟨b, off, h5, Nat.lt_of_lt_of_le h6 hb.size, fun i hi j u hu => ?_⟩
  rw [hb.cell (p := ⟨b, off + i * 34 + j, none⟩) h6]
  exact h7 i hi j u hu
theorem EnC.len {e : EnC} (h : e.ok) : e.l.length = 34 := by
  unfold EnC.l
  simp [cellsK, h.1]
def tsF (es : List EnC) : Int := (es.map fun e => ((octS e.m).length : Int) + 1 + (e.nm.size : Int) + 1 + 32).sum
theorem box_cl (w : World) {CL : List Value} {m : Int} {nm : ByteArray} (h0 : CL[0]? = some (.int .i64 m)) (h1 : CL[1]? = some (.string nm)) : ∃ w1, w.alloc (.cells CL.toArray 45) = w1 ∧ Below w.heap.size w w1 ∧ w.heap.size < w1.heap.size ∧ w1.heap[w.heap.size]? = some (.cells CL.toArray 45) ∧ ∀ w', Below w1.heap.size w1 w' → w'.cell? ⟨w.heap.size, 0, none⟩ = some (.int .i64 m) ∧ w'.cell? ⟨w.heap.size, 1, none⟩ = some (.string nm) := by
  have hlt : w.heap.size < (w.alloc (.cells CL.toArray 45)).heap.size := by simp
  refine ⟨_, rfl, (Below.refl _ _).alloc (Nat.le_refl _) _, hlt, heap_alloc_new w _, fun w' hw => ⟨?_, ?_⟩⟩
  · rw [hw.cell (p := ⟨w.heap.size, 0, none⟩) hlt]
    exact alloc_cell _ _ _ _ _ (by simpa using h0)
  · rw [hw.cell (p := ⟨w.heap.size, 1, none⟩) hlt]
    exact alloc_cell _ _ _ _ _ (by simpa using h1)
theorem EnC.ones (e : EnC) : ∀ u ∈ e.l, u.oneCell' = true := by
  intro u hu
  unfold EnC.l at hu
  rcases List.mem_cons.1 hu with rfl | hu
  · rfl
  · rcases List.mem_cons.1 hu with rfl | hu
    · rfl
    · exact cellsK_one .u8 _ u hu
theorem tsF_step (es : List EnC) {k : Nat} (h : k < es.length) : tsF (es.take (k + 1)) = tsF (es.take k) + (((octS (es[k]'h).m).length : Int) + 1 + ((es[k]'h).nm.size : Int) + 1 + 32) := by
  unfold tsF
  rw [List.take_add_one, List.getElem?_eq_getElem h, List.map_append, List.sum_append]
  simp
theorem octS_size (n : Int) : (strOfNums (octS n)).size = (octS n).length ∧ (octS n).length ≤ 24 ∧ 1 ≤ (octS n).length := by
  have h1 : (strOfNums (octS n)).size = (octS n).length := by
    rw [Lib.size_eq, strOfNums_data]
    simp
  refine ⟨h1, ?_, ?_⟩
  · unfold octS
    have := octF_length 22 n.natAbs
    split
    · rw [List.length_cons]; omega
    · omega
  · unfold octS
    have := octF_length 22 n.natAbs
    split
    · rw [List.length_cons]; omega
    · omega
theorem tsF_range (es : List EnC) (hok : ∀ e ∈ es, e.ok) : 0 ≤ tsF es ∧ tsF es ≤ es.length * 140737488356000 := by
  induction es with
  | nil => simp [tsF]
  | cons e es ih =>
    have h1 := ih (fun x hx => hok x (List.mem_cons_of_mem _ hx))
    have h2 := (hok e List.mem_cons_self).2.2.2.2
    have h3 := octS_size e.m
    unfold tsF at *
    rw [List.map_cons, List.sum_cons, List.length_cons]
    constructor <;> omega
theorem wr64 {x : Int} (h0 : -9223372036854775808 ≤ x) (h1 : x ≤ 9223372036854775807) : IntKind.i64.wrap x = x := by
  rw [IntKind.wrap_i64]; omega
set_option maxHeartbeats 1000000 in
set_option maxRecDepth 100000 in
theorem treeSize_any (v : Value) (es : List EnC) (w : World) (hg : Gv w) (hr : RdE w v es) (hl : es.length ≤ 4096) :
    Calls Tryz.prog 48 #[v] w fun e w' => e = .returned (.int .i64 (tsF es)) ∧ Below w.heap.size w w' := by
  obtain ⟨a, c, rfl, hlc, hok, hrd⟩ := hr
  have KR := Kept.mk hrd
  have KK := Kept.mk hok
  have KG := Kept.mk hg
  have hln : (es.length : Int) ≤ 4096 := by omega
  clear hrd hok hg
  go_enter Tryz.func48, Tryz.ntmps48
  go_wp2
  go_loopw [3, 8] (fun sv kv wr => ∃ k : Nat, k ≤ es.length ∧ kv = .int .i64 k ∧ sv = .int .i64 (tsF (es.take k)) ∧ Below w.heap.size w wr) (fun _ kv _ => es.length - (intOf kv).toNat)
  case atStart => exact ⟨0, Nat.zero_le _, rfl, rfl, Below.refl _ _⟩
  case round =>
    obtain ⟨k, hk, rfl, rfl, hbel⟩ := hrel
    have KBr := Kept.mk hbel
    by_cases hlt : k < es.length
    · have hki : (k : Int) < (es.length : Int) := by omega
      obtain ⟨b, off, rfl, hbl, hrg⟩ := KR.out (by omega)
      have hrow : wr.rangeAt b (off + k * 34) (es[k]'hlt).l := fun j u hu => by
        rw [hbel.cell (p := ⟨b, off + k * 34 + j, none⟩) hbl]
        exact hrg k hlt j u hu
      have hoke := KK.out _ (List.getElem_mem hlt)
      have KSt := Kept.mk (tsF_step es hlt)
      have hrng := tsF_range (es.take k) (fun e he => KK.out e (List.mem_of_mem_take he))
      have htl : (es.take k).length ≤ 4096 := by rw [List.length_take]; omega
      have hacc : 0 ≤ tsF (es.take k) ∧ tsF (es.take k) ≤ 4096 * 140737488356000 := ⟨hrng.1, Int.le_trans hrng.2 (Int.mul_le_mul_of_nonneg_right (by omega) (by omega))⟩
      have hos := octS_size (es[k]'hlt).m
      have KMm : Kept (∀ W, Gv W → Calls Tryz.prog 23 #[.int .i64 (es[k]'hlt).m] W fun e w' => e = .returned (.string (strOfNums (octS (es[k]'hlt).m))) ∧ Below W.heap.size W w') := ⟨fun W hW => modeDigits_all _ W hW hoke.2.2.1 hoke.2.2.2.1⟩
      have h34 := EnC.len hoke
      have hones := EnC.ones (es[k]'hlt)
      have hc0 : (es[k]'hlt).l[0]? = some (.int .i64 (es[k]'hlt).m) := rfl
      have hc1 : (es[k]'hlt).l[1]? = some (.string (es[k]'hlt).nm) := rfl
      have hnl := hoke.2.2.2.2
      clear hoke hrg hrng htl
      generalize tsF (es.take k) = acc at *
      generalize strOfNums (octS (es[k]'hlt).m) = T at *
      generalize (octS (es[k]'hlt).m).length = q at *
      generalize (es[k]'hlt).l = CL at *
      generalize (es[k]'hlt).m = m at *
      generalize (es[k]'hlt).nm = nm at *
      obtain ⟨w2, hw2, hB2, hlt2, hh2, hc2⟩ := box_cl wr hc0 hc1
      have hR := Kept.mk hrow
      have KI : Kept ((Tryz.prog.info? 45).map (·.size) = some CL.length) := ⟨by rw [h34]; kernel_rfl⟩
      have KI2 : Kept ((Tryz.prog.info? 45).map (·.size) = some CL.toArray.size) := ⟨by rw [List.size_toArray]; exact KI.out⟩
      have KS : Kept (CL.toArray.size = 34) := ⟨by rw [List.size_toArray]; exact h34⟩
      have KO : Kept (CL.toArray.all (·.oneCell') = true) := ⟨by rw [Array.all_eq_true_iff_forall_mem]; intro x hx; exact hones x (by simpa using hx)⟩
      have KC : Kept (∀ W, CC w2 W → W.cell? ⟨wr.heap.size, 0, none⟩ = some (.int .i64 m) ∧ W.cell? ⟨wr.heap.size, 1, none⟩ = some (.string nm)) := ⟨hc2⟩
      have hBr2 := hbel.trans (hB2.mono hbel.size)
      have KB2 := Kept.mk hBr2
      have KM2 : Kept (∀ W, CC w2 W → Calls Tryz.prog 23 #[.int .i64 m] W fun e w' => e = .returned (.string T) ∧ CC w2 w') := ⟨fun W hW => (KMm.out W ((KG.out.later hBr2).later hW)).mono fun e w' hp => ⟨hp.1, hW.on hp.2⟩⟩
      have hTs : T.size = q := hos.1
      have hq : q ≤ 24 := hos.2.1
      have hqi : (q : Int) ≤ 24 := by omega
      have hni : (nm.size : Int) ≤ 140737488355328 := by omega
      have ha0 := hacc.1
      have ha1 := hacc.2
      have W1 : IntKind.i64.wrap ((q : Int) + 1) = (q : Int) + 1 := wr64 (by omega) (by omega)
      have W2 : IntKind.i64.wrap ((q : Int) + 1 + (nm.size : Int)) = (q : Int) + 1 + (nm.size : Int) := wr64 (by omega) (by omega)
      have W3 : IntKind.i64.wrap ((q : Int) + 1 + (nm.size : Int) + 1) = (q : Int) + 1 + (nm.size : Int) + 1 := wr64 (by omega) (by omega)
      have W4 : IntKind.i64.wrap ((q : Int) + 1 + (nm.size : Int) + 1 + 32) = (q : Int) + 1 + (nm.size : Int) + 1 + 32 := wr64 (by omega) (by omega)
      have W5 : IntKind.i64.wrap (acc + ((q : Int) + 1 + (nm.size : Int) + 1 + 32)) = acc + ((q : Int) + 1 + (nm.size : Int) + 1 + 32) := wr64 (by omega) (by omega)
      clear hbel hrow hos hacc h34 hones hc0 hc1 hB2 hh2 hc2 hBr2 KMm hnl hni ha0 ha1 hq hqi
      go_wp2_with (first | (refine wpList_load_mid rfl 45 _ rfl b (off + k * 34) rfl CL _ hR.out Tryz.underlying45 rfl KI.out ?_) | (refine BigFrame.wpList_want rfl (fun K hK => wp_store_row 45 _ _ rfl wr.heap.size CL.toArray rfl rfl 45 _ (heap_alloc_new wr _) KI2.out (by rw [KS.out]; rfl) KO.out (hK _ _ ?_)); rw [World.setRow_alloc_new]))
      rw [hw2]
      simp only [Act.put]
      refine wp_region_quietC (C := CC w2) (by kernel_rfl) (by kernel_rfl) (Below.refl _ _).drew ?_
      go_big_quiet_step ((intro _; rfl))
      refine BigFrame.wpQuiet_want rfl (fun K hK => quiet_run (v := .pointer (some ⟨wr.heap.size, 0, none⟩)) (fun W hW => by go_simp; all_goals rfl) (hK _ ?_))
      clear hK K
      simp only [Act.put, List.setIfInBounds_toArray, List.set_cons_zero, List.set_cons_succ]
      refine BigFrame.wpQuiet_want rfl (fun K hK => quiet_run (v := .int .i64 m) (fun W hW => by obtain ⟨c0, c1⟩ := KC.out W hW; go_simp; all_goals rfl) (hK _ ?_))
      clear hK K
      simp only [Act.put, List.setIfInBounds_toArray, List.set_cons_zero, List.set_cons_succ]
      go_big_quiet_step ((intro hCw; exact KM2.out _ hCw))
      refine BigFrame.wpQuiet_want rfl (fun K hK => quiet_run (v := .int .i64 (q : Int)) (fun W hW => by go_simp; all_goals rfl) (hK _ ?_))
      clear hK K
      simp only [Act.put, List.setIfInBounds_toArray, List.set_cons_zero, List.set_cons_succ]
      refine BigFrame.wpQuiet_want rfl (fun K hK => quiet_run (v := .int .i64 ((q : Int) + 1)) (fun W hW => by go_simp; all_goals rfl) (hK _ ?_))
      clear hK K
      simp only [Act.put, List.setIfInBounds_toArray, List.set_cons_zero, List.set_cons_succ]
      refine BigFrame.wpQuiet_want rfl (fun K hK => quiet_run (v := .pointer (some ⟨wr.heap.size, 1, none⟩)) (fun W hW => by go_simp; all_goals rfl) (hK _ ?_))
      clear hK K
      simp only [Act.put, List.setIfInBounds_toArray, List.set_cons_zero, List.set_cons_succ]
      refine BigFrame.wpQuiet_want rfl (fun K hK => quiet_run (v := .string nm) (fun W hW => by obtain ⟨c0, c1⟩ := KC.out W hW; go_simp; all_goals rfl) (hK _ ?_))
      clear hK K
      simp only [Act.put, List.setIfInBounds_toArray, List.set_cons_zero, List.set_cons_succ]
      refine BigFrame.wpQuiet_want rfl (fun K hK => quiet_run (v := .int .i64 (nm.size : Int)) (fun W hW => by go_simp; all_goals rfl) (hK _ ?_))
      clear hK K
      simp only [Act.put, List.setIfInBounds_toArray, List.set_cons_zero, List.set_cons_succ]
      refine BigFrame.wpQuiet_want rfl (fun K hK => quiet_run (v := .int .i64 ((q : Int) + 1 + (nm.size : Int))) (fun W hW => by go_simp; all_goals rfl) (hK _ ?_))
      clear hK K
      simp only [Act.put, List.setIfInBounds_toArray, List.set_cons_zero, List.set_cons_succ]
      refine BigFrame.wpQuiet_want rfl (fun K hK => quiet_run (v := .int .i64 ((q : Int) + 1 + (nm.size : Int) + 1)) (fun W hW => by go_simp; all_goals rfl) (hK _ ?_))
      clear hK K
      simp only [Act.put, List.setIfInBounds_toArray, List.set_cons_zero, List.set_cons_succ]
      refine BigFrame.wpQuiet_want rfl (fun K hK => quiet_run (v := .int .i64 ((q : Int) + 1 + (nm.size : Int) + 1 + 32)) (fun W hW => by go_simp; all_goals rfl) (hK _ ?_))
      clear hK K
      simp only [Act.put, List.setIfInBounds_toArray, List.set_cons_zero, List.set_cons_succ]
      refine BigFrame.wpQuiet_want rfl (fun K hK => quiet_run (v := .int .i64 (acc + ((q : Int) + 1 + (nm.size : Int) + 1 + 32))) (fun W hW => by go_simp; all_goals rfl) (hK _ ?_))
      clear hK K
      simp only [Act.put, List.setIfInBounds_toArray, List.set_cons_zero, List.set_cons_succ]
      go_big_quiet_step ((intro _; rfl))
      refine wpQuiet_nil ?_
      intro w3 hw3
      have KB3 := Kept.mk (KB2.out.trans (Below.mono hw3 KB2.out.size))
      clear hw3
      go_wp2
      go_roundw
      case rel => exact ⟨k + 1, by omega, rfl, by rw [KSt.out], KB3.out⟩
      case measure => simp [intOf]; omega
    · have hki : ¬ (k : Int) < (es.length : Int) := by omega
      have KT : Kept (tsF (es.take k) = tsF es) := ⟨by rw [List.take_of_length_le (by omega)]⟩
      clear hbel
      rw [KT.out]
      go_wp2
      go_ret
      exact ⟨rfl, KBr.out⟩
end Go.Proofs.YtkdlhcegimnocaaGreatDoor
