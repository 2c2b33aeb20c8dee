/-
  The program's Id.
-/
import Derived.Test.YtmnadnhabfflkaaDoorO8
namespace Go.Proofs.YtmnadnhabfflkaaDoor
open Go.RowKit

/-- Bytes, as sha's texts have them. -/
theorem shRd {S : Nat → Prop} {w : World} {v : Value} {xs : List Int} (h : Rd .u8 S w v xs) (hA : Sh.AllB xs) : Sh.Rd w v xs := by
  obtain ⟨a, c, h1, h2, h3, h4, h5⟩ := h
  exact ⟨a, c, h1, h2, h3, hA, h4, fun h0 => by
    obtain ⟨b, off, h6, h7, _, h8⟩ := h5 h0
    exact ⟨b, off, h6, h7, h8⟩⟩
theorem results_row2 {P : Program} {fn : Func} {p u : Tmp} {ty : TypeId} (h : fn.results = #[.cell p ty, .tmp u]) (tmps : Array Value) (w : World) (g : Nat) (t : TypeId) (cs : Array Value) (fr : Nat × Nat) (d : TypeDesc)
    (hp : tmps.getD p undef = .pointer (some ⟨g, 0, none⟩)) (hg : w.heap[g]? = some (.cells cs t fr))
    (hu : P.underlying ty = some d) (hd : (match d with | .struct _ | .array _ _ => true | _ => false) = true) (hi : (P.info? ty).map (·.size) = some cs.size) :
    (results fn tmps).run P w = .ok (.tuple #[.agg cs, tmps.getD u undef]) w := by
  rw [results_cell_tmp h, hp]
  simp only [asAddr, Sem.run_pure, Result.andThen_ok, run_loadVar_row w g t ty cs fr d hg hu hd hi]
/-- An id's cells. -/
def idV (ds : List Int) : Array Value := (Sh.cellsU8 ds).toArray
def z32 : List Int := List.replicate 32 0
/-- The id of an object's bytes. -/
def idL (k : Int) (xs : List Int) : List Int := Sh.digF (Sh.sumS Sh.ksK (strL (hdB k xs.length) ++ xs)).list
def idE (k : Int) (n : Nat) : Int := if 1048576 < n then 2 else if isK k then 0 else 9
def idR (k : Int) (xs : List Int) : List Int := if idE k xs.length = 0 then idL k xs else z32
theorem wpList_append_run {P : Program} (w : World) {ops : Array Oper} {rest : List Oper} {o : Oper} {a : Act} {Q : Exit → Act → World → Prop} (hgd : o.guard = none) (s x : Operand) (t : TypeId)
    (ho : o.op = .call { callee := .builtin .append, args := #[s, x], argTypes := #[t, t] }) (v xv v' : Value) (w' : World) (hsv : a.eval s = v) (hx : a.eval x = xv)
    (hr : (Builtin.append_ #[t, t] o.type #[v, xv]).run P w = .ok v' w') (h : wpList P ops Q rest (a.put o.dst v') w') : wpList P ops Q (o :: rest) a w := by
  refine wpList_plain hgd fun K hK => ?_
  unfold Oper.wp execOp
  simp only [ho, resolve, invoke, builtin, Sem.run_bind, Sem.run_pure, Result.andThen_ok, List.map_toArray, List.map_cons, List.map_nil, hsv, hx, hr]
  exact hK _ _ h
/-- A text's bytes, in a row of their own. -/
theorem bytes_text (w : World) (s : ByteArray) (hs : s.size ≤ 1000000) : ∃ W cap cur fz, (convert 9 22 (.string s)).run Tryd.prog w = .ok (.slice (some ⟨w.heap.size, 0, none⟩) s.size cap) W ∧
    W.heap[w.heap.size]? = some (.cells cur 5 fz) ∧ cur.size = cap ∧ cap ≤ fz.1 ∧ s.size ≤ cap ∧ cap ≤ maxLen ∧ cur.toList.take s.size = cellsK .u8 (strL s) ∧ Below w.heap.size w W := by
  have hge := grownCap_ge w s.size 0 5
  have hle := grownCap_le_maxLen w s.size 0 5 (by unfold maxLen; omega)
  have hsz : (Lib.bytesCells w 5 s).size = grownCap w s.size 0 5 := by
    unfold Lib.bytesCells
    rw [Array.size_append, Array.size_map, Array.size_replicate]
    show s.size + _ = _
    omega
  refine ⟨Lib.bytesWorld w 5 s, grownCap w s.size 0 5, Lib.bytesCells w 5 s, _, Lib.run_convert_string_bytes w 9 22 5 s Tryd.underlying9 Tryd.underlying22 Tryd.underlying5, Lib.bytesWorld_at_new w 5 s, hsz, by rw [hsz]; exact Nat.le_refl _, hge, hle, ?_, ?_⟩
  · unfold Lib.bytesCells
    rw [Array.toList_append, List.take_append_of_le_length (by rw [Array.length_toList, Array.size_map]; exact Nat.le_refl _)]
    rw [List.take_of_length_le (by rw [Array.length_toList, Array.size_map]; exact Nat.le_refl _), Array.toList_map, cells_strL]
    rfl
  · exact ⟨rfl, rfl, rfl, by rw [Lib.bytesWorld_size]; omega, fun k hk => Lib.bytesWorld_at_old w 5 s k hk⟩
/-- An object and the place of an id, in blocks of the call's own. -/
theorem box_obj (w : World) (k : Int) (v : Value) : ∃ w2, (w.alloc (.cells #[.int .i64 k, v] 34)).alloc (.cells #[.int .u8 0, .int .u8 0, .int .u8 0, .int .u8 0, .int .u8 0, .int .u8 0, .int .u8 0, .int .u8 0, .int .u8 0, .int .u8 0, .int .u8 0, .int .u8 0, .int .u8 0, .int .u8 0, .int .u8 0, .int .u8 0, .int .u8 0, .int .u8 0, .int .u8 0, .int .u8 0, .int .u8 0, .int .u8 0, .int .u8 0, .int .u8 0, .int .u8 0, .int .u8 0, .int .u8 0, .int .u8 0, .int .u8 0, .int .u8 0, .int .u8 0, .int .u8 0] 29) = w2 ∧ Below w.heap.size w w2 ∧ w.heap.size + 1 < w2.heap.size ∧ ∀ w', Below w2.heap.size w2 w' → w'.cell? ⟨w.heap.size, 0, none⟩ = some (.int .i64 k) ∧ w'.cell? ⟨w.heap.size, 1, none⟩ = some v ∧ w'.heap[w.heap.size + 1]? = some (.cells #[.int .u8 0, .int .u8 0, .int .u8 0, .int .u8 0, .int .u8 0, .int .u8 0, .int .u8 0, .int .u8 0, .int .u8 0, .int .u8 0, .int .u8 0, .int .u8 0, .int .u8 0, .int .u8 0, .int .u8 0, .int .u8 0, .int .u8 0, .int .u8 0, .int .u8 0, .int .u8 0, .int .u8 0, .int .u8 0, .int .u8 0, .int .u8 0, .int .u8 0, .int .u8 0, .int .u8 0, .int .u8 0, .int .u8 0, .int .u8 0, .int .u8 0, .int .u8 0] 29) := by
  have hz : ((w.alloc (.cells #[.int .i64 k, v] 34)).alloc (.cells #[.int .u8 0, .int .u8 0, .int .u8 0, .int .u8 0, .int .u8 0, .int .u8 0, .int .u8 0, .int .u8 0, .int .u8 0, .int .u8 0, .int .u8 0, .int .u8 0, .int .u8 0, .int .u8 0, .int .u8 0, .int .u8 0, .int .u8 0, .int .u8 0, .int .u8 0, .int .u8 0, .int .u8 0, .int .u8 0, .int .u8 0, .int .u8 0, .int .u8 0, .int .u8 0, .int .u8 0, .int .u8 0, .int .u8 0, .int .u8 0, .int .u8 0, .int .u8 0] 29)).heap.size = w.heap.size + 2 := by simp
  have hr0 : ((w.alloc (.cells #[.int .i64 k, v] 34)).alloc (.cells #[.int .u8 0, .int .u8 0, .int .u8 0, .int .u8 0, .int .u8 0, .int .u8 0, .int .u8 0, .int .u8 0, .int .u8 0, .int .u8 0, .int .u8 0, .int .u8 0, .int .u8 0, .int .u8 0, .int .u8 0, .int .u8 0, .int .u8 0, .int .u8 0, .int .u8 0, .int .u8 0, .int .u8 0, .int .u8 0, .int .u8 0, .int .u8 0, .int .u8 0, .int .u8 0, .int .u8 0, .int .u8 0, .int .u8 0, .int .u8 0, .int .u8 0, .int .u8 0] 29)).heap[w.heap.size]? = some (.cells #[.int .i64 k, v] 34) := by
    rw [((Below.refl (w.heap.size + 1) (w.alloc (.cells #[.int .i64 k, v] 34))).alloc (by simp) (.cells #[.int .u8 0, .int .u8 0, .int .u8 0, .int .u8 0, .int .u8 0, .int .u8 0, .int .u8 0, .int .u8 0, .int .u8 0, .int .u8 0, .int .u8 0, .int .u8 0, .int .u8 0, .int .u8 0, .int .u8 0, .int .u8 0, .int .u8 0, .int .u8 0, .int .u8 0, .int .u8 0, .int .u8 0, .int .u8 0, .int .u8 0, .int .u8 0, .int .u8 0, .int .u8 0, .int .u8 0, .int .u8 0, .int .u8 0, .int .u8 0, .int .u8 0, .int .u8 0] 29)).block w.heap.size (by omega)]
    exact heap_alloc_new w _
  have hr1 : ((w.alloc (.cells #[.int .i64 k, v] 34)).alloc (.cells #[.int .u8 0, .int .u8 0, .int .u8 0, .int .u8 0, .int .u8 0, .int .u8 0, .int .u8 0, .int .u8 0, .int .u8 0, .int .u8 0, .int .u8 0, .int .u8 0, .int .u8 0, .int .u8 0, .int .u8 0, .int .u8 0, .int .u8 0, .int .u8 0, .int .u8 0, .int .u8 0, .int .u8 0, .int .u8 0, .int .u8 0, .int .u8 0, .int .u8 0, .int .u8 0, .int .u8 0, .int .u8 0, .int .u8 0, .int .u8 0, .int .u8 0, .int .u8 0] 29)).heap[w.heap.size + 1]? = some (.cells #[.int .u8 0, .int .u8 0, .int .u8 0, .int .u8 0, .int .u8 0, .int .u8 0, .int .u8 0, .int .u8 0, .int .u8 0, .int .u8 0, .int .u8 0, .int .u8 0, .int .u8 0, .int .u8 0, .int .u8 0, .int .u8 0, .int .u8 0, .int .u8 0, .int .u8 0, .int .u8 0, .int .u8 0, .int .u8 0, .int .u8 0, .int .u8 0, .int .u8 0, .int .u8 0, .int .u8 0, .int .u8 0, .int .u8 0, .int .u8 0, .int .u8 0, .int .u8 0] 29) := by
    have := heap_alloc_new (w.alloc (.cells #[.int .i64 k, v] 34)) (.cells #[.int .u8 0, .int .u8 0, .int .u8 0, .int .u8 0, .int .u8 0, .int .u8 0, .int .u8 0, .int .u8 0, .int .u8 0, .int .u8 0, .int .u8 0, .int .u8 0, .int .u8 0, .int .u8 0, .int .u8 0, .int .u8 0, .int .u8 0, .int .u8 0, .int .u8 0, .int .u8 0, .int .u8 0, .int .u8 0, .int .u8 0, .int .u8 0, .int .u8 0, .int .u8 0, .int .u8 0, .int .u8 0, .int .u8 0, .int .u8 0, .int .u8 0, .int .u8 0] 29)
    rw [show (w.alloc (.cells #[.int .i64 k, v] 34)).heap.size = w.heap.size + 1 by simp] at this
    exact this
  refine ⟨_, rfl, ((Below.refl _ _).alloc (Nat.le_refl _) _).alloc (by simp) _, by rw [hz]; omega, fun w' hw => ?_⟩
  rw [hw.cell (p := ⟨w.heap.size, 0, none⟩) (by rw [hz]; show w.heap.size < _; omega), hw.cell (p := ⟨w.heap.size, 1, none⟩) (by rw [hz]; show w.heap.size < _; omega), hw.block (w.heap.size + 1) (by rw [hz]; omega), cell_of_row _ w.heap.size 0 _ _ (0, 0) hr0, cell_of_row _ w.heap.size 1 _ _ (0, 0) hr0]
  exact ⟨rfl, rfl, hr1⟩
theorem info_id : (Tryd.prog.info? 29).map (·.size) = some 32 := by kernel_rfl
theorem zv : (#[.int .u8 0, .int .u8 0, .int .u8 0, .int .u8 0, .int .u8 0, .int .u8 0, .int .u8 0, .int .u8 0, .int .u8 0, .int .u8 0, .int .u8 0, .int .u8 0, .int .u8 0, .int .u8 0, .int .u8 0, .int .u8 0, .int .u8 0, .int .u8 0, .int .u8 0, .int .u8 0, .int .u8 0, .int .u8 0, .int .u8 0, .int .u8 0, .int .u8 0, .int .u8 0, .int .u8 0, .int .u8 0, .int .u8 0, .int .u8 0, .int .u8 0, .int .u8 0] : Array Value) = idV z32 := by rfl
theorem strL_allB (s : ByteArray) : Sh.AllB (strL s) := by
  intro x hx
  obtain ⟨b, _, rfl⟩ := List.mem_map.1 hx
  have := b.toNat_lt
  omega
theorem allB_cat {xs ys : List Int} (h : Sh.AllB xs) (g : Sh.AllB ys) : Sh.AllB (xs ++ ys) := by
  intro x hx
  rcases List.mem_append.1 hx with h' | h'
  · exact h x h'
  · exact g x h'
set_option maxHeartbeats 1000000 in
set_option maxRecDepth 100000 in
theorem id_any (k : Int) (v : Value) (xs : List Int) (w : World) (hg : Gv w) (hr : Rd .u8 anyB w v xs) (hA : Sh.AllB xs) :
    Calls Tryd.prog 7 #[.agg #[.int .i64 k, v]] w fun e w' => e = .returned (.tuple #[.agg (idV (idR k xs)), .int .i64 (idE k xs.length)]) ∧ Below w.heap.size w w' := by
  obtain ⟨w2, hw2, hB2, hlt2, hc2⟩ := box_obj w k v
  have KR := Kept.mk (hr.later hB2 (Nat.le_refl _))
  obtain ⟨a, c, rfl, hac, hlc, hcm⟩ := hr.form
  have KB2 := Kept.mk hB2
  have KC := Kept.mk hc2
  have KZi : Kept ((Tryd.prog.info? 29).map (·.size) = some (#[.int .u8 0, .int .u8 0, .int .u8 0, .int .u8 0, .int .u8 0, .int .u8 0, .int .u8 0, .int .u8 0, .int .u8 0, .int .u8 0, .int .u8 0, .int .u8 0, .int .u8 0, .int .u8 0, .int .u8 0, .int .u8 0, .int .u8 0, .int .u8 0, .int .u8 0, .int .u8 0, .int .u8 0, .int .u8 0, .int .u8 0, .int .u8 0, .int .u8 0, .int .u8 0, .int .u8 0, .int .u8 0, .int .u8 0, .int .u8 0, .int .u8 0, .int .u8 0] : Array Value).size) := ⟨by kernel_rfl⟩
  have KZo : Kept ((#[.int .u8 0, .int .u8 0, .int .u8 0, .int .u8 0, .int .u8 0, .int .u8 0, .int .u8 0, .int .u8 0, .int .u8 0, .int .u8 0, .int .u8 0, .int .u8 0, .int .u8 0, .int .u8 0, .int .u8 0, .int .u8 0, .int .u8 0, .int .u8 0, .int .u8 0, .int .u8 0, .int .u8 0, .int .u8 0, .int .u8 0, .int .u8 0, .int .u8 0, .int .u8 0, .int .u8 0, .int .u8 0, .int .u8 0, .int .u8 0, .int .u8 0, .int .u8 0] : Array Value).all (·.oneCell') = true) := ⟨by kernel_rfl⟩
  have hxm : xs.length ≤ 9223372036854775807 := by unfold maxLen at hcm; omega
  by_cases h1 : 1048576 < xs.length
  · have h1i : (1048576 : Int) < (xs.length : Int) := by omega
    have KE : Kept (idE k xs.length = 2) := ⟨by unfold idE; rw [if_pos h1]⟩
    have KI : Kept (idR k xs = z32) := ⟨by unfold idR; rw [KE.out]; rfl⟩
    obtain ⟨c0, c1, c2⟩ := hc2 w2 (Below.refl _ _)
    have RW := Kept.mk c2
    clear hB2 hc2 hr h1 hac hlc hcm c2 hg
    go_enter Tryd.func7, Tryd.ntmps7
    go_wp2_with (first | (refine BigFrame.wpList_want rfl (fun K hK => wp_store_row 29 _ _ rfl (w.heap.size + 1) #[.int .u8 0, .int .u8 0, .int .u8 0, .int .u8 0, .int .u8 0, .int .u8 0, .int .u8 0, .int .u8 0, .int .u8 0, .int .u8 0, .int .u8 0, .int .u8 0, .int .u8 0, .int .u8 0, .int .u8 0, .int .u8 0, .int .u8 0, .int .u8 0, .int .u8 0, .int .u8 0, .int .u8 0, .int .u8 0, .int .u8 0, .int .u8 0, .int .u8 0, .int .u8 0, .int .u8 0, .int .u8 0, .int .u8 0, .int .u8 0, .int .u8 0, .int .u8 0] rfl rfl 29 #[.int .u8 0, .int .u8 0, .int .u8 0, .int .u8 0, .int .u8 0, .int .u8 0, .int .u8 0, .int .u8 0, .int .u8 0, .int .u8 0, .int .u8 0, .int .u8 0, .int .u8 0, .int .u8 0, .int .u8 0, .int .u8 0, .int .u8 0, .int .u8 0, .int .u8 0, .int .u8 0, .int .u8 0, .int .u8 0, .int .u8 0, .int .u8 0, .int .u8 0, .int .u8 0, .int .u8 0, .int .u8 0, .int .u8 0, .int .u8 0, .int .u8 0, .int .u8 0] RW.out KZi.out rfl KZo.out (hK _ _ ?_)); rw [setRow_self _ _ _ _ _ RW.out]))
    refine bodyPost_ret (v := .tuple #[.agg #[.int .u8 0, .int .u8 0, .int .u8 0, .int .u8 0, .int .u8 0, .int .u8 0, .int .u8 0, .int .u8 0, .int .u8 0, .int .u8 0, .int .u8 0, .int .u8 0, .int .u8 0, .int .u8 0, .int .u8 0, .int .u8 0, .int .u8 0, .int .u8 0, .int .u8 0, .int .u8 0, .int .u8 0, .int .u8 0, .int .u8 0, .int .u8 0, .int .u8 0, .int .u8 0, .int .u8 0, .int .u8 0, .int .u8 0, .int .u8 0, .int .u8 0, .int .u8 0], .int .i64 2]) (results_row2 (p := 2) (u := 3) (ty := 29) Tryd.results7 _ _ (w.heap.size + 1) 29 _ (0, 0) _ rfl RW.out Tryd.underlying29 rfl info_id) rfl ⟨?_, KB2.out⟩
    rw [KE.out, KI.out, zv]
  · have h1i : ¬ (1048576 : Int) < (xs.length : Int) := by omega
    have KHd := header_any k (xs.length : Int) w2 (hg.later hB2) (by omega) (by omega)
    have KE : Kept (idE k xs.length = hdE k (xs.length : Int)) := ⟨by unfold idE hdE; rw [if_neg h1, if_neg (show ¬ ((xs.length : Int) < 0 ∨ 1048576 < (xs.length : Int)) by omega)]⟩
    have KS0 : Kept (hdE k (xs.length : Int) = 0 → hdS k (xs.length : Int) = hdB k (xs.length : Int)) := ⟨fun h => by unfold hdS; rw [if_pos h]⟩
    have hHs : (hdB k (xs.length : Int)).size ≤ 1000 := by
      unfold hdB
      have h1 := wd_size k
      have h2 := itoa_size (n := (xs.length : Int)) (by omega) (by omega)
      rw [size_cat, size_cat, size_cat]
      have e1 : (⟨#[32]⟩ : ByteArray).size = 1 := rfl
      have e2 : (⟨#[0]⟩ : ByteArray).size = 1 := rfl
      omega
    obtain ⟨c0, c1, -⟩ := hc2 w2 (Below.refl _ _)
    have KG := Kept.mk (hg.later hB2)
    cases hk : isK k
    · have KE9 : Kept (hdE k (xs.length : Int) = 9) := ⟨by unfold hdE; rw [if_neg (show ¬ ((xs.length : Int) < 0 ∨ 1048576 < (xs.length : Int)) by omega), hk]; rfl⟩
      have KI : Kept (idR k xs = z32) := ⟨by unfold idR; rw [KE.out, KE9.out]; rfl⟩
      rw [KE9.out] at KHd
      generalize hdS k (xs.length : Int) = HS at *
      have KHd := Kept.mk KHd
      clear hB2 hc2 hr h1 hac hlc hcm hg
      go_enter Tryd.func7, Tryd.ntmps7
      go_wp2_with fail
      refine Calls.mono KHd.out (fun e w3 hp => ?_)
      obtain ⟨rfl, hb3⟩ := hp
      have RW := Kept.mk (KC.out w3 hb3).2.2
      have KB3 := Kept.mk (KB2.out.trans (hb3.mono KB2.out.size))
      clear hb3 c0 c1
      go_wp2_with (first | (refine BigFrame.wpList_want rfl (fun K hK => wp_store_row 29 _ _ rfl (w.heap.size + 1) #[.int .u8 0, .int .u8 0, .int .u8 0, .int .u8 0, .int .u8 0, .int .u8 0, .int .u8 0, .int .u8 0, .int .u8 0, .int .u8 0, .int .u8 0, .int .u8 0, .int .u8 0, .int .u8 0, .int .u8 0, .int .u8 0, .int .u8 0, .int .u8 0, .int .u8 0, .int .u8 0, .int .u8 0, .int .u8 0, .int .u8 0, .int .u8 0, .int .u8 0, .int .u8 0, .int .u8 0, .int .u8 0, .int .u8 0, .int .u8 0, .int .u8 0, .int .u8 0] rfl rfl 29 #[.int .u8 0, .int .u8 0, .int .u8 0, .int .u8 0, .int .u8 0, .int .u8 0, .int .u8 0, .int .u8 0, .int .u8 0, .int .u8 0, .int .u8 0, .int .u8 0, .int .u8 0, .int .u8 0, .int .u8 0, .int .u8 0, .int .u8 0, .int .u8 0, .int .u8 0, .int .u8 0, .int .u8 0, .int .u8 0, .int .u8 0, .int .u8 0, .int .u8 0, .int .u8 0, .int .u8 0, .int .u8 0, .int .u8 0, .int .u8 0, .int .u8 0, .int .u8 0] RW.out KZi.out rfl KZo.out (hK _ _ ?_)); rw [setRow_self _ _ _ _ _ RW.out]))
      refine bodyPost_ret (v := .tuple #[.agg #[.int .u8 0, .int .u8 0, .int .u8 0, .int .u8 0, .int .u8 0, .int .u8 0, .int .u8 0, .int .u8 0, .int .u8 0, .int .u8 0, .int .u8 0, .int .u8 0, .int .u8 0, .int .u8 0, .int .u8 0, .int .u8 0, .int .u8 0, .int .u8 0, .int .u8 0, .int .u8 0, .int .u8 0, .int .u8 0, .int .u8 0, .int .u8 0, .int .u8 0, .int .u8 0, .int .u8 0, .int .u8 0, .int .u8 0, .int .u8 0, .int .u8 0, .int .u8 0], .int .i64 9]) (results_row2 (p := 2) (u := 3) (ty := 29) Tryd.results7 _ _ (w.heap.size + 1) 29 _ (0, 0) _ rfl RW.out Tryd.underlying29 rfl info_id) rfl ⟨?_, KB3.out⟩
      rw [KE.out, KE9.out, KI.out, zv]
    · have KE0 : Kept (hdE k (xs.length : Int) = 0) := ⟨by unfold hdE; rw [if_neg (show ¬ ((xs.length : Int) < 0 ∨ 1048576 < (xs.length : Int)) by omega), hk]; rfl⟩
      have KI : Kept (idR k xs = idL k xs) := ⟨by unfold idR; rw [KE.out, KE0.out]; rfl⟩
      have KL : Kept (idL k xs = Sh.digF (Sh.sumS Sh.ksK (strL (hdB k xs.length) ++ xs)).list) := ⟨rfl⟩
      rw [KE0.out, KS0.out KE0.out] at KHd
      generalize hdB k (xs.length : Int) = HS at *
      have KHd := Kept.mk KHd
      have KA := Kept.mk hA
      clear hB2 hc2 hr h1 hac hlc hcm hg hA
      go_enter Tryd.func7, Tryd.ntmps7
      go_wp2_with fail
      refine Calls.mono KHd.out (fun e w3 hp => ?_)
      obtain ⟨rfl, hb3⟩ := hp
      have hB3 := KB2.out.trans (hb3.mono KB2.out.size)
      obtain ⟨W4, cap, cur, fz, hcv, hrow, hcs, hfz, hsc, hcm, htk, hB4⟩ := bytes_text w3 HS (by omega)
      obtain ⟨i0, z0, hi, hz, hsz, hbb, hzc⟩ := info8
      have hb24 : Below w2.heap.size w2 W4 := hb3.trans (hB4.mono hb3.size)
      obtain ⟨v5, W5, hap, hR5, hg5⟩ := run_append_marked (P := Tryd.prog) W4 anyB 22 22 5 i0 z0 Tryd.underlying22 hi hz hsz hbb w3.heap.size HS.size cap cur fz hrow hcs hfz hsc hcm (strL HS) htk (strL_length HS) _ xs (KR.out.later hb24 (Nat.le_refl _)) (by omega)
      obtain ⟨d0, d1, -⟩ := KC.out W4 hb24
      have hb25 : Below w2.heap.size w2 W5 := hb24.grown hg5 hb24.size (fun k hk => by cases hk; exact hb3.size)
      have hB5 := KB2.out.trans (hb25.mono KB2.out.size)
      have KSm := Kept.mk (Sh.sum_any v5 (strL HS ++ xs) Sh.ksK W5 (shRd hR5 (allB_cat (strL_allB HS) KA.out)) Sh.ksK_length (KG.out.later hb25).rnd)
      have KAp := Kept.mk hap
      have K25 := Kept.mk hb25
      have KB5 := Kept.mk hB5
      clear hb3 hB3 hrow hcs hfz hsc hcm htk hB4 hb24 hR5 hg5 hap c0 c1 hb25 hB5
      rw [← KL.out] at KSm
      obtain ⟨DV, hDV⟩ : ∃ DV, (Sh.cellsU8 (idL k xs)).toArray = DV := ⟨_, rfl⟩
      have KDs : Kept (DV.size = 32) := ⟨by rw [← hDV, KL.out, List.size_toArray, Sh.cellsU8_length, Sh.digF_length]⟩
      have KDi : Kept ((Tryd.prog.info? 29).map (·.size) = some DV.size) := ⟨by rw [KDs.out]; exact info_id⟩
      have KDo : Kept (DV.all (·.oneCell') = true) := ⟨by
        rw [← hDV, Array.all_eq_true_iff_forall_mem]
        intro x hx
        exact Sh.cellsU8_one _ x (by simpa using hx)⟩
      rw [hDV] at KSm
      have KDV : Kept (idV (idL k xs) = DV) := ⟨hDV⟩
      clear hDV
      go_wp2_with (first | rw [hcv] | (at_builtin; refine wpList_append_run _ rfl _ _ 22 rfl _ _ _ _ rfl rfl KAp.out ?_))
      refine Calls.mono KSm.out (fun e w6 hp => ?_)
      obtain ⟨rfl, hb6⟩ := hp
      have hb26 := K25.out.trans (hb6.mono K25.out.size)
      have hrw := (KC.out w6 hb26).2.2
      have RW := Kept.mk hrw
      have hB6 := KB2.out.trans (hb26.mono KB2.out.size)
      have KB7 : Kept (Below w.heap.size w (w6.setRow (w.heap.size + 1) DV)) := ⟨below_setRow hB6 (by omega) _⟩
      have KRW : Kept ((w6.setRow (w.heap.size + 1) DV).heap[w.heap.size + 1]? = some (.cells DV 29)) := ⟨setRow_heap w6 (w.heap.size + 1) _ DV 29 (0, 0) hrw⟩
      clear hb6 hb26 hrw hB6 d0 d1
      go_wp2_with (first | (refine BigFrame.wpList_want rfl (fun K hK => wp_store_row 29 _ _ rfl (w.heap.size + 1) DV rfl rfl 29 _ RW.out KDi.out (by rw [KDs.out]; rfl) KDo.out (hK _ _ ?_))))
      refine bodyPost_ret (v := .tuple #[.agg DV, .int .i64 0]) (results_row2 (p := 2) (u := 3) (ty := 29) Tryd.results7 _ _ (w.heap.size + 1) 29 _ (0, 0) _ rfl KRW.out Tryd.underlying29 rfl KDi.out) rfl ⟨?_, KB7.out⟩
      rw [KE.out, KE0.out, KI.out, KDV.out]
end Go.Proofs.YtmnadnhabfflkaaDoor
