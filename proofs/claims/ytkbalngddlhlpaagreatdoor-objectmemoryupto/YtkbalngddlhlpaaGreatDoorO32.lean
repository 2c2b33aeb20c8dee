/-
  Walks of the document: octal.
-/
import Derived.Test.YtkbalngddlhlpaaGreatDoorO29
import Derived.Test.YtkbalngddlhlpaaGreatDoorO25
import Derived.Test.YtkbalngddlhlpaaGreatDoorO14
namespace Go.Proofs.YtkbalngddlhlpaaGreatDoor
open Go.RowKit

theorem octG_six (l : List Int) (h : IsOct l) (hl : l.length ≤ 6) : 0 ≤ octG 0 l ∧ octG 0 l < 262144 := by
  have h1 := octG_range l 0 h (by omega)
  have h2 : (8 : Int) ^ l.length ≤ 8 ^ 6 := by
    have := Nat.pow_le_pow_right (n := 8) (by omega) hl
    exact_mod_cast this
  omega
structure OctD (l : List Int) (n : Int) : Prop where
  eq : IsOct l → l.length ≤ 6 → n = octG 0 l
  lo : -1 ≤ n
  hi : n < 262144
set_option maxHeartbeats 1000000 in
set_option maxRecDepth 100000 in
theorem doctal_any (s : ByteArray) (w : World) (hs : s.size ≤ 1048576) :
    Calls Tryz.prog 75 #[.string s] w fun e w' => ∃ n, e = .returned (.int .i64 n) ∧ OctD (strL s) n ∧ w' = w := by
  have hL : (strL s).length = s.size := by unfold strL; rw [List.length_map, ← Lib.size_eq]
  go_enter Tryz.func75, Tryz.ntmps75
  go_wp2
  go_loopw [3, 4] (fun vv iv wr => ∃ k : Nat, k ≤ s.size ∧ iv = .int .i64 k ∧ vv = .int .i64 (octG 0 ((strL s).take k)) ∧ IsOct ((strL s).take k) ∧ (k = 0 ∨ s.size ≤ 6) ∧ wr = w) (fun _ iv _ => s.size - (intOf iv).toNat)
  case atStart => exact ⟨0, by omega, rfl, rfl, (fun c hc => by simp at hc), .inl rfl, rfl⟩
  case round =>
    obtain ⟨k, hk, rfl, rfl, hio, h6, rfl⟩ := hrel
    by_cases hlt : k < s.size
    · have hlt' : (k : Int) < (s.size : Int) := by omega
      have hi := run_index_text wr s .i64 k hlt
      have hsn := sN_range s k
      have hks : k < (strL s).length := by omega
      have hge : (strL s)[k]'hks = sN s k := by
        have hk2 : k < s.data.size := hlt
        have h0 : (strL s)[k]? = some (sN s k) := by
          unfold strL sN
          rw [List.getElem?_map]
          rw [Array.getElem?_toList, Array.getElem?_eq_getElem hk2, Array.getD, dif_pos hk2]
          rfl
        rw [List.getElem?_eq_getElem hks] at h0
        exact Option.some.inj h0
      have hmem : sN s k ∈ strL s := by rw [← hge]; exact List.getElem_mem hks
      have hst : (strL s).take (k + 1) = (strL s).take k ++ [sN s k] := by rw [List.take_add_one, List.getElem?_eq_getElem hks, hge]; rfl
      have KBad : Kept (¬ (48 ≤ sN s k ∧ sN s k ≤ 55 ∧ s.size ≤ 6) → OctD (strL s) (-1)) := ⟨fun h => ⟨fun h1 h2 => by
        have := h1 _ hmem
        omega, by omega, by omega⟩⟩
      have KGood : Kept (48 ≤ sN s k → sN s k ≤ 55 → s.size ≤ 6 → IsOct ((strL s).take (k + 1)) ∧ octG 0 ((strL s).take (k + 1)) = 8 * octG 0 ((strL s).take k) + (sN s k - 48) ∧ 0 ≤ octG 0 ((strL s).take k) ∧ octG 0 ((strL s).take k) < 262144) := ⟨fun h1 h2 h3 => by
        refine ⟨fun c hc => ?_, ?_, octG_six _ hio (by rw [List.length_take]; omega)⟩
        · rw [hst] at hc
          rcases List.mem_append.1 hc with hc | hc
          · exact hio c hc
          · simp at hc; omega
        · rw [hst, octG_append]
          show octG 0 ((strL s).take k) * 8 + (sN s k - 48) = _
          omega⟩
      clear hmem hst hge hio h6 hks
      generalize sN s k = c at *
      obtain ⟨v1, hv1⟩ : ∃ v1, octG 0 ((strL s).take (k + 1)) = v1 := ⟨_, rfl⟩
      have KV1 := Kept.mk hv1
      rw [hv1] at KGood
      clear hv1
      generalize octG 0 ((strL s).take k) = v0 at *
      by_cases h1 : c < 48
      · have KB := Kept.mk (KBad.out (by omega))
        clear KBad KGood
        go_wp2
        go_ret
        exact ⟨_, rfl, KB.out, rfl⟩
      · by_cases h2 : 55 < c
        · have KB := Kept.mk (KBad.out (by omega))
          clear KBad KGood
          go_wp2
          go_ret
          exact ⟨_, rfl, KB.out, rfl⟩
        · by_cases h3 : 6 < (s.size : Int)
          · have KB := Kept.mk (KBad.out (by omega))
            clear KBad KGood
            go_wp2
            go_ret
            exact ⟨_, rfl, KB.out, rfl⟩
          · obtain ⟨g1, g2, g3, g4⟩ := KGood.out (by omega) (by omega) (by omega)
            have KI := Kept.mk g1
            have hw1 : IntKind.u8.wrap (c - 48) = c - 48 := by rw [IntKind.wrap_u8]; omega
            have hw2 : IntKind.i64.wrap (c - 48) = c - 48 := by rw [IntKind.wrap_i64]; omega
            have hw3 : IntKind.i64.wrap (8 * v0) = 8 * v0 := by rw [IntKind.wrap_i64]; omega
            have hw4 : IntKind.i64.wrap (8 * v0 + (c - 48)) = v1 := by rw [IntKind.wrap_i64]; omega
            have hw5 : IntKind.i64.wrap ((k : Int) + 1) = (k : Int) + 1 := by rw [IntKind.wrap_i64]; omega
            have KE : Kept (v1 = 8 * v0 + (c - 48)) := ⟨g2⟩
            clear KBad KGood g1 g2
            go_wp2
            refine ⟨⟨k + 1, by omega, by simp, by rw [KV1.out], KI.out, .inr (by omega), trivial⟩, ?_⟩
            simp only [intOf]
            omega
    · have hlt' : ¬ (k : Int) < (s.size : Int) := by omega
      have hkk : k = s.size := by omega
      have ht : (strL s).take k = strL s := by rw [hkk, ← hL, List.take_length]
      rw [ht] at hio ⊢
      have KD : Kept (OctD (strL s) (octG 0 (strL s))) := ⟨⟨fun _ _ => rfl, by
        rcases h6 with h6 | h6
        · have : strL s = [] := List.eq_nil_of_length_eq_zero (by omega)
          rw [this]; decide
        · have := octG_six (strL s) hio (by omega); omega, by
        rcases h6 with h6 | h6
        · have : strL s = [] := List.eq_nil_of_length_eq_zero (by omega)
          rw [this]; decide
        · have := octG_six (strL s) hio (by omega); omega⟩⟩
      clear h6 hio ht
      generalize octG 0 (strL s) = n at *
      go_wp2
      go_ret
      exact ⟨_, rfl, KD.out, rfl⟩


def EnB (w : World) (g : Nat) (e : EnC) : Prop := w.heap[g]? = some (.cells e.l.toArray 33)
section
variable {w w' : World} {g : Nat} {e : EnC}
theorem EnB.lt (h : EnB w g e) : g < w.heap.size := by
  unfold EnB at h
  rcases Nat.lt_or_ge g w.heap.size with h' | h'
  · exact h'
  · rw [Array.getElem?_eq_none h'] at h
    cases h
theorem EnB.range (h : EnB w g e) : w.rangeAt g 0 e.l := by
  intro j v hv
  rw [Nat.zero_add, cell_of_row w g j _ 33 (0, 0) h]
  simpa using hv
theorem EnB.far {B : Nat} (h : EnB w g e) (hb : Below B w w') (hlt : g < B) : EnB w' g e := by
  unfold EnB at h ⊢
  rw [hb.block g hlt]
  exact h
theorem EnB.other {g' i : Nat} (h : EnB w g e) (hne : g ≠ g') (u : Value) : EnB (w.setCell ⟨g', i, none⟩ u) g e := by
  unfold EnB at h ⊢
  rw [Below.heap_setCell _ _ _ _ hne]
  exact h
theorem EnB.frozen (h : EnB w g e) (i : Nat) : w.frozen? ⟨g, i, none⟩ = false := by
  unfold EnB at h
  simp [World.frozen?, h]
theorem EnB.cellI (h : EnB w g e) (i : Nat) (hi : i < e.ids.length) : w.cell? ⟨g, 2 + i, none⟩ = some (.int .u8 (e.ids.getD i 0)) := by
  have := h.range (2 + i) (.int .u8 (e.ids.getD i 0)) (by
    unfold EnC.l cellsK
    rw [show 2 + i = i + 2 by omega]
    simp [List.getD, List.getElem?_eq_getElem hi])
  simpa using this
theorem EnB.setI (h : EnB w g e) (i : Nat) (y : Int) : EnB (w.setCell ⟨g, 2 + i, none⟩ (.int .u8 y)) g { e with ids := e.ids.set i y } := by
  unfold EnB at h ⊢
  simp only [World.setCell, Array.getElem?_modify, h]
  rw [show 2 + i = i + 2 by omega]
  simp [EnC.l, cellsK, List.map_set]
end
def e0E : EnC := ⟨0, ⟨#[]⟩, z32L⟩
theorem e0E_ok : e0E.ok := ⟨by simp [e0E, z32L], fun x hx => by rw [List.eq_of_mem_replicate hx]; omega, by decide, by decide, by decide⟩
set_option maxRecDepth 100000 in
theorem built0E : Tryz.prog.built 33 [] = some e0E.l.toArray := by kernel_rfl
theorem wpList_build0E {ops : Array Oper} {rest : List Oper} {o : Oper} {a : Act} {w : World} {Q : Exit → Act → World → Prop} (hg : o.guard = none) (ho : o.op = .build 33 #[])
    (h : wpList Tryz.prog ops Q rest (a.put o.dst (.agg e0E.l.toArray)) w) : wpList Tryz.prog ops Q (o :: rest) a w := by
  refine wpList_plain hg fun K hK => ?_
  have hr := run_build (P := Tryz.prog) w 33 #[] _ built0E
  unfold Oper.wp execOp
  simp only [ho, Sem.run_bind, List.map_toArray, List.map_nil, hr, Result.andThen_ok]
  exact hK _ _ h
theorem results_rtt {P : Program} {fn : Func} {p t u : Tmp} {ty : TypeId} (h : fn.results = #[.cell p ty, .tmp t, .tmp u]) (tmps : Array Value) (w : World) (g : Nat) (t' : TypeId) (cs : Array Value) (fr : Nat × Nat) (d : TypeDesc)
    (hp : tmps.getD p undef = .pointer (some ⟨g, 0, none⟩)) (hg : w.heap[g]? = some (.cells cs t' fr))
    (hu : P.underlying ty = some d) (hd : (match d with | .struct _ | .array _ _ => true | _ => false) = true) (hi : (P.info? ty).map (·.size) = some cs.size) :
    (results fn tmps).run P w = .ok (.tuple #[.agg cs, tmps.getD t undef, tmps.getD u undef]) w := by
  have hp' : tmps[p]?.getD undef = .pointer (some ⟨g, 0, none⟩) := by simpa using hp
  simp [results, h, hp', asAddr, run_loadVar_row w g t' ty cs fr d hg hu hd hi]
theorem e_info {e : EnC} (h : e.ok) : (Tryz.prog.info? 33).map (·.size) = some e.l.toArray.size := by rw [List.size_toArray, EnC.len h]; kernel_rfl
theorem e_size {e : EnC} (h : e.ok) : e.l.toArray.size = 34 := by rw [List.size_toArray, EnC.len h]
theorem e_ones (e : EnC) : e.l.toArray.all (·.oneCell') = true := by rw [Array.all_eq_true_iff_forall_mem]; intro x hx; exact EnC.ones _ x (by simpa using hx)

structure NxAt (xs : List Int) (p q : Nat) : Prop where
  lt : p < q
  room : q + 33 ≤ xs.length
  no32 : ∀ j, j < p → xs.getD j 0 ≠ 32
  is32 : xs.getD p 0 = 32
  no0 : ∀ j, p ≤ j → j < q → xs.getD j 0 ≠ 0
  is0 : xs.getD q 0 = 0
def NxNo (xs : List Int) : Prop := ∀ p q, ¬ NxAt xs p q
structure NxYes (xs : List Int) (e : EnC) (more : List Int) : Prop where
  out : ∃ p q, NxAt xs p q ∧ OctD (xs.take p) e.m ∧ e.nm = strOfNums ((xs.drop (p + 1)).take (q - (p + 1))) ∧ e.ids = (xs.drop (q + 1)).take 32 ∧ more = xs.drop (q + 33)
theorem nx_no_a {xs : List Int} (h : ∀ j, j < xs.length → xs.getD j 0 ≠ 32) : NxNo xs := fun p q n => h p (by have := n.lt; have := n.room; omega) n.is32
theorem nx_p {xs : List Int} {p p' q : Nat} (h : ∀ j, j < p → xs.getD j 0 ≠ 32) (h1 : xs.getD p 0 = 32) (n : NxAt xs p' q) : p' = p := by
  rcases Nat.lt_trichotomy p p' with k | k | k
  · exact absurd h1 (n.no32 p k)
  · exact k.symm
  · exact absurd n.is32 (h p' k)
theorem nx_no_b {xs : List Int} {p : Nat} (h : ∀ j, j < p → xs.getD j 0 ≠ 32) (h1 : xs.getD p 0 = 32) (h2 : ∀ j, p ≤ j → j < xs.length → xs.getD j 0 ≠ 0) : NxNo xs := fun p' q n => by
  have e := nx_p h h1 n
  subst e
  exact h2 q (by have := n.lt; omega) (by have := n.room; omega) n.is0
theorem nx_no_c {xs : List Int} {p q : Nat} (h : ∀ j, j < p → xs.getD j 0 ≠ 32) (h1 : xs.getD p 0 = 32) (h2 : ∀ j, p ≤ j → j < q → xs.getD j 0 ≠ 0) (h3 : xs.length < q + 33) : NxNo xs := fun p' q' n => by
  have e := nx_p h h1 n
  subst e
  have : q ≤ q' := by
    rcases Nat.lt_or_ge q' q with k | k
    · exact absurd n.is0 (h2 q' (by have := n.lt; omega) k)
    · exact k
  have := n.room
  omega
def NxEnd (S : Nat → Prop) (xs : List Int) (w : World) (e : Ending) (w' : World) : Prop :=
  (NxNo xs ∧ e = .returned (.tuple #[.agg e0E.l.toArray, .slice none 0 0, .bool false]) ∧ Below w.heap.size w w') ∨
  (∃ en more r, NxYes xs en more ∧ en.ok ∧ e = .returned (.tuple #[.agg en.l.toArray, r, .bool true]) ∧ Rd .u8 S w r more ∧ Below w.heap.size w w')
theorem rd_part {S : Nat → Prop} {w : World} {xs : List Int} {b off c n lo : Nat} (hS : S b) (hb : b < w.heap.size) (hc : ∀ i, i < xs.length → w.cell? ⟨b, off + i, none⟩ = some (.int .u8 (xs.getD i 0))) (h1 : lo + n ≤ xs.length) (h2 : n ≤ c) (h3 : c ≤ maxLen) : Rd .u8 S w (.slice (some ⟨b, off + lo, none⟩) n c) ((xs.drop lo).take n) := by
  have hl : ((xs.drop lo).take n).length = n := by rw [List.length_take, List.length_drop]; omega
  refine ⟨_, c, by rw [hl], by omega, h3, (fun h => by cases h), fun _ => ⟨b, off + lo, rfl, hb, hS, fun i hi => ?_⟩⟩
  rw [hl] at hi
  rw [Nat.add_assoc, hc (lo + i) (by omega)]
  have h5 : lo + i < xs.length := by omega
  simp [List.getD, hi, List.getElem?_drop]

theorem yieldsIf_buildE {ops : Array Oper} {S : World → Prop} {op : Oper} {a : Act} (hw : Region.wanted op (yielded ops a.tmps) = true) (o1 o2 : Operand) (ho : op.op = .build 33 #[(0, o1), (1, o2)])
    (m : Int) (nm : ByteArray) (h1 : a.eval o1 = .int .i64 m) (h2 : a.eval o2 = .string nm) : YieldsIf Tryz.prog ops S op (.agg (EnC.l ⟨m, nm, z32L⟩).toArray) a :=
  .inl ⟨hw, fun w _ => by
    have hb : Tryz.prog.built 33 [(0, Value.int .i64 m), (1, Value.string nm)] = some (EnC.l ⟨m, nm, z32L⟩).toArray := by
      rw [builtE]
      exact fillE_two m nm
    have hr := run_build (P := Tryz.prog) w 33 #[(0, Value.int .i64 m), (1, Value.string nm)] _ hb
    unfold execOp
    simp only [ho, Sem.run_bind, List.map_toArray, List.map_cons, List.map_nil, h1, h2, hr, Result.andThen_ok, Sem.run_pure]⟩
theorem ids_step (xs : List Int) (q k : Nat) (hk : k < 32) (hl : q + 32 ≤ xs.length) : ((xs.drop q).take k ++ List.replicate (32 - k) 0).set k (xs.getD (q + k) 0) = (xs.drop q).take (k + 1) ++ List.replicate (32 - (k + 1)) 0 ∧ ((xs.drop q).take k ++ List.replicate (32 - k) 0).length = 32 := by
  have hlt : ((xs.drop q).take k).length = k := by rw [List.length_take, List.length_drop]; omega
  refine ⟨?_, by rw [List.length_append, hlt, List.length_replicate]; omega⟩
  have h1 : q + k < xs.length := by omega
  rw [show 32 - k = (32 - (k + 1)) + 1 by omega, List.replicate_succ, List.set_append_right _ _ (Nat.le_of_eq hlt), hlt, Nat.sub_self, List.set_cons_zero, List.take_add_one, List.getElem?_drop, List.getElem?_eq_getElem h1]
  simp [List.getD, List.getElem?_eq_getElem h1]

set_option maxHeartbeats 4000000 in
set_option maxRecDepth 100000 in
theorem next_any {S : Nat → Prop} (v : Value) (xs : List Int) (w : World) (hr : Rd .u8 S w v xs) (hA : AllIn 0 256 xs) (h0 : 0 < xs.length) (hl : xs.length ≤ 1048576) :
    Calls Tryz.prog 39 #[v] w (NxEnd S xs w) := by
  obtain ⟨b, off, c, rfl, hblt, hlc, hcm, hSb, hcell⟩ := hr.open h0
  have KSb := Kept.mk hSb
  clear hSb
  have KC := Kept.mk hcell
  have Kblt := Kept.mk hblt
  have KA := Kept.mk hA
  have Kcm := Kept.mk hcm
  obtain ⟨w1, hw1, hB1, -, -⟩ := EnC.box w e0E
  have hE1 : EnB w1 w.heap.size e0E := by rw [← hw1]; exact heap_alloc_new w _
  have KB1 := Kept.mk hB1
  have KE1 := Kept.mk hE1
  have KC1 : Kept (∀ i, i < xs.length → w1.cell? ⟨b, off + i, none⟩ = some (.int .u8 (xs.getD i 0))) := ⟨fun i hi => by rw [hB1.cell (p := ⟨b, off + i, none⟩) hblt]; exact hcell i hi⟩
  have KI0 := Kept.mk (e_info e0E_ok)
  have KZ0 := Kept.mk (e_size e0E_ok)
  have KO0 := Kept.mk (e_ones e0E)
  clear hr hA hcell hblt hB1 hE1 hcm
  go_enter Tryz.func39, Tryz.ntmps39
  go_upto_region 2 with fail
  generalize hOb : Obj.cells (_ : Array Value) 33 = Ob
  have hOb2 : Ob = Obj.cells e0E.l.toArray 33 := by subst hOb; rfl
  subst hOb2
  clear hOb
  rw [hw1]
  clear hw1
  go_loopw [5] (fun av wr => ∃ p : Nat, p ≤ xs.length ∧ av = .int .i64 p ∧ wr = w1 ∧ ∀ j, j < p → xs.getD j 0 ≠ 32) (fun av _ => xs.length - (intOf av).toNat)
  case atStart => exact ⟨0, by omega, rfl, rfl, fun j hj => by omega⟩
  case round =>
    obtain ⟨p, hp, rfl, rfl, hno⟩ := hrel
    rename World => w1
    by_cases hlt : p < xs.length
    · have hpi : (p : Int) < (xs.length : Int) := by omega
      have hcp := KC1.out p hlt
      have Kno := Kept.mk hno
      by_cases hx : xs.getD p 0 = 32
      · have Kis := Kept.mk hx
        rw [hx] at hcp
        clear hno hx
        go_wp2_with fail
        go_loopw [6] (fun bv wr => ∃ q : Nat, p ≤ q ∧ q ≤ xs.length ∧ bv = .int .i64 q ∧ wr = w1 ∧ ∀ j, p ≤ j → j < q → xs.getD j 0 ≠ 0) (fun bv _ => xs.length - (intOf bv).toNat)
        case atStart => exact ⟨p, by omega, by omega, rfl, rfl, fun j h1 h2 => by omega⟩
        case round =>
          obtain ⟨q, hpq, hq, rfl, rfl, hno⟩ := hrel
          rename World => w1
          clear hcp
          by_cases hltq : q < xs.length
          · have hqi : (q : Int) < (xs.length : Int) := by omega
            have hcq := KC1.out q hltq
            have Kn0 := Kept.mk hno
            by_cases hx : xs.getD q 0 = 0
            · have Ki0 := Kept.mk hx
              rw [hx] at hcq
              have hpq2 : p < q := by
                rcases Nat.lt_or_ge p q with h | h
                · exact h
                · have e : q = p := by omega
                  rw [e, Kis.out] at hx
                  omega
              clear hno hx
              have g1 : ¬ (q : Int) ≤ (p : Int) := by omega
              have e1 : IntKind.i64.wrap ((q : Int) + 33) = (q : Int) + 33 := by rw [IntKind.wrap_i64]; omega
              by_cases hroom : q + 33 ≤ xs.length
              · have g2 : ¬ (xs.length : Int) < (q : Int) + 33 := by omega
                have KY : Kept (NxAt xs p q) := ⟨⟨hpq2, hroom, Kno.out, Kis.out, Kn0.out, Ki0.out⟩⟩
                obtain ⟨p1, hp1⟩ : ∃ p1, p1 = p + 1 := ⟨_, rfl⟩
                obtain ⟨q1, hq1⟩ : ∃ q1, q1 = q + 1 := ⟨_, rfl⟩
                obtain ⟨q33, hq33⟩ : ∃ q33, q33 = q + 33 := ⟨_, rfl⟩
                have KcA : Kept (∀ W, Below w1.heap.size w1 W → (convert 27 9 (.slice (some ⟨b, off, none⟩) p c)).run Tryz.prog W = .ok (.string (strOfNums (xs.take p))) W) := ⟨fun W hW => ((rd_part (S := anyB) (lo := 0) (n := p) trivial (Nat.lt_of_lt_of_le Kblt.out KB1.out.size) KC1.out (by omega) (by omega) Kcm.out).later hW (Nat.le_refl _)).str Tryz.underlying27 Tryz.underlying5 9 Tryz.underlying9⟩
                have KcN : Kept (∀ W, Below w1.heap.size w1 W → (convert 27 9 (.slice (some ⟨b, off + p1, none⟩) (q - p1) (c - p1))).run Tryz.prog W = .ok (.string (strOfNums ((xs.drop p1).take (q - p1)))) W) := ⟨fun W hW => ((rd_part (S := anyB) (lo := p1) (n := q - p1) trivial (Nat.lt_of_lt_of_le Kblt.out KB1.out.size) KC1.out (by omega) (by omega) (Nat.le_trans (Nat.sub_le _ _) Kcm.out)).later hW (Nat.le_refl _)).str Tryz.underlying27 Tryz.underlying5 9 Tryz.underlying9⟩
                have KAS : Kept (strL (strOfNums (xs.take p)) = xs.take p) := ⟨strL_strOf fun x hx => KA.out x (List.mem_of_mem_take hx)⟩
                have KSA : Kept ((strOfNums (xs.take p)).size ≤ 1048576) := ⟨by rw [strOfNums_size, List.length_take]; omega⟩
                have KSN : Kept ((strOfNums ((xs.drop p1).take (q - p1))).size ≤ 1048576) := ⟨by rw [strOfNums_size, List.length_take, List.length_drop]; omega⟩
                have KNe : Kept (strOfNums ((xs.drop p1).take (q - p1)) = strOfNums ((xs.drop (p + 1)).take (q - (p + 1)))) := ⟨by rw [hp1]⟩
                generalize strOfNums ((xs.drop p1).take (q - p1)) = SN at *
                have KOc : Kept (∀ W, Calls Tryz.prog 75 #[.string (strOfNums (xs.take p))] W fun e w' => ∃ n, e = .returned (.int .i64 n) ∧ OctD (xs.take p) n ∧ w' = W) := ⟨fun W => by have := doctal_any (strOfNums (xs.take p)) W KSA.out; rw [KAS.out] at this; exact this⟩
                generalize strOfNums (xs.take p) = SA at *
                have f1 : IntKind.i64.wrap ((p : Int) + 1) = (p1 : Int) := by rw [IntKind.wrap_i64]; omega
                have f2 : IntKind.i64.wrap ((q : Int) + 1) = (q1 : Int) := by rw [IntKind.wrap_i64]; omega
                have f3 : (p : Int) ≤ (c : Int) := by omega
                have f4 : (p1 : Int) ≤ (q : Int) := by omega
                have f5 : (q : Int) ≤ (c : Int) := by omega
                have f6 : ¬ c = p1 := by omega
                have Kq33 := Kept.mk hq33
                have Kq1 := Kept.mk hq1
                have Kp1 := Kept.mk hp1
                clear hp1 hq1 hq33
                go_upto_region 9 with fail
                clear hcq
                have KBd : Kept (Below w1.heap.size w1 w1.drew) := ⟨(Below.refl _ w1).drew⟩
                refine wp_region_noPanic ?_
                refine wp_region_held_drew (S := fun W => Below w1.heap.size w1 W) (by kernel_rfl) KBd.out (fun hHeld => ?_)
                have hSD := KBd.out
                generalize hwD : w1.drew = wD at *
                clear hwD
                refine wpAnyH_takeD (i := 0) (d := some 47) (v := .slice (some ⟨b, off, none⟩) xs.length c) rfl rfl (by kernel_rfl) (by kernel_rfl) (by kernel_rfl) (fun _ _ _ h => h) (Or.inl ⟨by rfl, fun W hSw => by (try dsimp only at hSw); go_simp⟩) (by assumption) ?_
                simp only [Act.put, List.setIfInBounds_toArray, List.set_cons_zero, List.set_cons_succ]
                refine wpAnyH_takeD (i := 1) (d := some 48) (v := .int .i64 p) rfl rfl (by kernel_rfl) (by kernel_rfl) (by kernel_rfl) (fun _ _ _ h => h) (Or.inl ⟨by rfl, fun W hSw => by (try dsimp only at hSw); go_simp⟩) (by assumption) ?_
                simp only [Act.put, List.setIfInBounds_toArray, List.set_cons_zero, List.set_cons_succ]
                refine wpAnyH_takeD (i := 2) (d := some 49) (v := .slice (some ⟨b, off, none⟩) p c) rfl rfl (by kernel_rfl) (by kernel_rfl) (by kernel_rfl) (fun _ _ _ h => h) (Or.inl ⟨by rfl, fun W hSw => by (try dsimp only at hSw); go_simp⟩) (by assumption) ?_
                simp only [Act.put, List.setIfInBounds_toArray, List.set_cons_zero, List.set_cons_succ]
                refine wpAnyH_takeD (i := 3) (d := some 50) (v := .string SA) rfl rfl (by kernel_rfl) (by kernel_rfl) (by kernel_rfl) (fun _ _ _ h => h) (Or.inl ⟨by rfl, fun W hSw => by have hcv := KcA.out W hSw; (try dsimp only at hSw); go_simp⟩) (by assumption) ?_
                simp only [Act.put, List.setIfInBounds_toArray, List.set_cons_zero, List.set_cons_succ]
                refine wpAnyH_takeD (i := 5) (d := some 52) (v := .slice (some ⟨b, off, none⟩) xs.length c) rfl rfl (by kernel_rfl) (by kernel_rfl) (by kernel_rfl) (fun _ _ _ h => h) (Or.inl ⟨by rfl, fun W hSw => by (try dsimp only at hSw); go_simp⟩) (by assumption) ?_
                simp only [Act.put, List.setIfInBounds_toArray, List.set_cons_zero, List.set_cons_succ]
                refine wpAnyH_takeD (i := 6) (d := some 53) (v := .int .i64 p) rfl rfl (by kernel_rfl) (by kernel_rfl) (by kernel_rfl) (fun _ _ _ h => h) (Or.inl ⟨by rfl, fun W hSw => by (try dsimp only at hSw); go_simp⟩) (by assumption) ?_
                simp only [Act.put, List.setIfInBounds_toArray, List.set_cons_zero, List.set_cons_succ]
                refine wpAnyH_takeD (i := 7) (d := some 54) (v := .int .i64 p1) rfl rfl (by kernel_rfl) (by kernel_rfl) (by kernel_rfl) (fun _ _ _ h => h) (Or.inl ⟨by rfl, fun W hSw => by (try dsimp only at hSw); go_simp⟩) (by assumption) ?_
                simp only [Act.put, List.setIfInBounds_toArray, List.set_cons_zero, List.set_cons_succ]
                refine wpAnyH_takeD (i := 8) (d := some 55) (v := .int .i64 q) rfl rfl (by kernel_rfl) (by kernel_rfl) (by kernel_rfl) (fun _ _ _ h => h) (Or.inl ⟨by rfl, fun W hSw => by (try dsimp only at hSw); go_simp⟩) (by assumption) ?_
                simp only [Act.put, List.setIfInBounds_toArray, List.set_cons_zero, List.set_cons_succ]
                refine wpAnyH_takeD (i := 9) (d := some 56) (v := .slice (some ⟨b, off + p1, none⟩) (q - p1) (c - p1)) rfl rfl (by kernel_rfl) (by kernel_rfl) (by kernel_rfl) (fun _ _ _ h => h) (Or.inl ⟨by rfl, fun W hSw => by (try dsimp only at hSw); go_simp⟩) (by assumption) ?_
                simp only [Act.put, List.setIfInBounds_toArray, List.set_cons_zero, List.set_cons_succ]
                refine wpAnyH_takeD (i := 10) (d := some 57) (v := .string SN) rfl rfl (by kernel_rfl) (by kernel_rfl) (by kernel_rfl) (fun _ _ _ h => h) (Or.inl ⟨by rfl, fun W hSw => by have hcv := KcN.out W hSw; (try dsimp only at hSw); go_simp⟩) (by assumption) ?_
                simp only [Act.put, List.setIfInBounds_toArray, List.set_cons_zero, List.set_cons_succ]
                obtain ⟨wa, hwa⟩ : ∃ wa, wD.alloc (.cells e0E.l.toArray 33) = wa := ⟨_, rfl⟩
                have hba : Below wD.heap.size wD wa := by rw [← hwa]; exact (Below.refl _ _).alloc (Nat.le_refl _) _
                have hhwa : wa.heap[wD.heap.size]? = some (.cells e0E.l.toArray 33) := by rw [← hwa]; exact heap_alloc_new wD _
                have hb1a := KBd.out.trans (hba.mono KBd.out.size)
                have KB1a := Kept.mk hb1a
                have Khwa := Kept.mk hhwa
                have Ksz : Kept (w1.heap.size ≤ wD.heap.size ∧ w.heap.size < w1.heap.size) := ⟨KBd.out.size, KE1.out.lt⟩
                clear hb1a hba hhwa
                refine wpAnyH_ready (rs := [4, 12]) (by kernel_rfl) (by simp) ?_
                refine AllReadyH.cons (o := _) rfl (fun K hK => ?_) (AllReadyH.cons (o := _) rfl (fun K hK => ?_) AllReadyH.nil)
                · clear hHeld
                  go_simp
                  refine Calls.mono (KOc.out wD) (fun e w10 hp10 => ?_)
                  obtain ⟨n, rfl, hoct, hw10⟩ := hp10
                  have hw10 := hw10.symm
                  subst hw10
                  have KOct := Kept.mk hoct
                  have Kn : Kept (-1 ≤ n ∧ n < 262144) := ⟨hoct.lo, hoct.hi⟩
                  refine hK.out _ _ hSD (fun hHeld => ?_)
                  clear hK K hoct
                  refine wpAnyH_takeD (i := 11) (d := some 58) (v := .agg (EnC.l ⟨n, SN, z32L⟩).toArray) rfl rfl (by kernel_rfl) (by kernel_rfl) (by kernel_rfl) (fun _ _ _ h => h) (yieldsIf_buildE (by rfl) _ _ rfl n SN rfl rfl) (by assumption) ?_
                  simp only [Act.put, List.setIfInBounds_toArray, List.set_cons_zero, List.set_cons_succ]
                  refine wpAnyH_ready (rs := [12]) (by kernel_rfl) (by simp) ?_
                  refine AllReadyH.cons (o := _) rfl (fun K hK => ?_) AllReadyH.nil
                  clear hHeld
                  go_simp
                  generalize hOb : Obj.cells (_ : Array Value) 33 = Ob
                  have hOb2 : Ob = Obj.cells e0E.l.toArray 33 := by subst hOb; rfl
                  subst hOb2
                  clear hOb
                  rw [hwa]
                  refine hK.out _ _ KB1a.out (fun hHeld => ?_)
                  clear hK K
                  have hok0 : (EnC.mk n SN z32L).ok := ⟨by simp [z32L], fun x hx => by rw [List.eq_of_mem_replicate hx]; omega, by have := Kn.out; simp only; omega, by have := Kn.out; simp only; omega, by have := KSN.out; simp only; omega⟩
                  obtain ⟨wS, hwS⟩ : ∃ wS, wa.setRow wD.heap.size (EnC.l ⟨n, SN, z32L⟩).toArray = wS := ⟨_, rfl⟩
                  have hES : EnB wS wD.heap.size ⟨n, SN, z32L⟩ := by rw [← hwS]; exact setRow_heap _ _ _ _ _ _ Khwa.out
                  have hBS : Below w1.heap.size w1 wS := by rw [← hwS]; have h5 := KB1a.out; have hsz := Ksz.out; exact ⟨h5.os, h5.tape, h5.output, by simpa using h5.size, fun k hk => by rw [setRow_other _ _ _ _ (by omega)]; exact h5.block k hk⟩
                  have KIn := Kept.mk (e_info hok0)
                  have KZn := Kept.mk (e_size hok0)
                  have KOn := Kept.mk (e_ones ⟨n, SN, z32L⟩)
                  have KES := Kept.mk hES
                  have KBS := Kept.mk hBS
                  have KwS := Kept.mk hwS
                  clear hok0 hES hBS hwS hwa
                  obtain ⟨C0, hC0⟩ : ∃ C0, EnC.l ⟨n, SN, z32L⟩ = C0 := ⟨_, rfl⟩
                  rw [hC0] at KIn KZn KOn KwS ⊢
                  clear hC0
                  refine wpAnyH_ready (rs := [13]) (by kernel_rfl) (by simp) ?_
                  refine AllReadyH.cons (o := _) rfl (fun K hK => ?_) AllReadyH.nil
                  clear hHeld
                  refine wp_store_row 33 _ _ rfl wD.heap.size C0.toArray rfl rfl 33 _ Khwa.out KIn.out (by rw [KZn.out]; rfl) KOn.out ?_
                  rw [KwS.out]
                  refine hK.out _ _ KBS.out (fun hHeld => ?_)
                  clear hK K hHeld KwS KIn KZn KOn
                  refine wpAnyH_done (by kernel_rfl) ?_ _
                  refine NoPanic.normal ?_
                  have KI1 : Kept (∀ k, k < 32 → ((xs.drop q1).take k ++ List.replicate (32 - k) 0).set k (xs.getD (q1 + k) 0) = (xs.drop q1).take (k + 1) ++ List.replicate (32 - (k + 1)) 0 ∧ ((xs.drop q1).take k ++ List.replicate (32 - k) 0).length = 32) := ⟨fun k hk => ids_step xs q1 k hk (by have := Kq1.out; omega)⟩
                  go_wp2_with fail
                  go_loopw [8] (fun iv wr => ∃ k : Nat, k ≤ 32 ∧ iv = .int .i64 k ∧ EnB wr wD.heap.size ⟨n, SN, (xs.drop q1).take k ++ List.replicate (32 - k) 0⟩ ∧ EnB wr w.heap.size e0E ∧ Below w1.heap.size w1 wr) (fun iv _ => 32 - (intOf iv).toNat)
                  case atStart => exact ⟨0, Nat.zero_le _, rfl, KES.out, KE1.out.far KBS.out Ksz.out.2, KBS.out⟩
                  case round =>
                    obtain ⟨k, hk, rfl, hEk, hE0, hBk⟩ := hrel
                    have KEk := Kept.mk hEk
                    have KE0 := Kept.mk hE0
                    have KBk := Kept.mk hBk
                    clear KE1 KES KBS KB1a Khwa
                    by_cases hlt : k < 32
                    · have hki : (k : Int) < 32 := by omega
                      obtain ⟨hst, hln⟩ := KI1.out k hlt
                      obtain ⟨r, hr⟩ : ∃ r, r = q1 + k := ⟨_, rfl⟩
                      have m1 : IntKind.i64.wrap ((q1 : Int) + (k : Int)) = (r : Int) := by rw [IntKind.wrap_i64]; have := Kq1.out; omega
                      have m2 : (r : Int) < (xs.length : Int) := by have := Kq1.out; omega
                      have m3 : IntKind.i64.wrap ((k : Int) + 1) = (k : Int) + 1 := by rw [IntKind.wrap_i64]; omega
                      have hcr : wr.cell? ⟨b, off + r, none⟩ = some (.int .u8 (xs.getD r 0)) := by rw [hBk.cell (p := ⟨b, off + r, none⟩) (Nat.lt_of_lt_of_le Kblt.out KB1.out.size)]; exact KC1.out r (by have := Kq1.out; omega)
                      have hcF := hEk.cellI k (by rw [hln]; exact hlt)
                      have hfz := hEk.frozen (2 + k)
                      rw [← hr] at hst
                      have KSt := Kept.mk hst
                      generalize xs.getD r 0 = y at *
                      generalize hids : (xs.drop q1).take k ++ List.replicate (32 - k) 0 = ids at *
                      simp only at hcF
                      generalize ids.getD k 0 = y0 at *
                      clear hst hln hEk hE0 hBk hr hids
                      go_wp2
                      go_roundw
                      case rel => exact ⟨k + 1, by omega, by go_num, by rw [← KSt.out]; exact KEk.out.setI k _, KE0.out.other (by have := Ksz.out; omega) _, KBk.out.setCell (by have := Ksz.out; exact this.1) _⟩
                      case measure => simp [intOf]; omega
                    · obtain rfl : k = 32 := by omega
                      have hids : (xs.drop q1).take 32 ++ List.replicate (32 - 32) 0 = (xs.drop q1).take 32 := by simp
                      rw [hids] at KEk
                      have Kyes : Kept (NxYes xs ⟨n, SN, (xs.drop q1).take 32⟩ (xs.drop q33)) := ⟨⟨⟨p, q, KY.out, KOct.out, KNe.out, by rw [Kq1.out], by rw [Kq33.out]⟩⟩⟩
                      have Kok : Kept (EnC.mk n SN ((xs.drop q1).take 32)).ok := ⟨⟨by simp only; rw [List.length_take, List.length_drop]; have := Kq1.out; omega, fun x hx => KA.out x (List.mem_of_mem_drop (List.mem_of_mem_take hx)), by have := Kn.out; simp only; omega, by have := Kn.out; simp only; omega, by have := KSN.out; simp only; omega⟩⟩
                      have KIf := Kept.mk (e_info Kok.out)
                      have KIl : Kept ((Tryz.prog.info? 33).map (·.size) = some (EnC.mk n SN ((xs.drop q1).take 32)).l.length) := ⟨by rw [EnC.len Kok.out]; kernel_rfl⟩
                      have KZf := Kept.mk (e_size Kok.out)
                      have KOf := Kept.mk (e_ones ⟨n, SN, (xs.drop q1).take 32⟩)
                      have hi1 : ¬ (32 : Int) < 32 := by omega
                      have n1 : IntKind.i64.wrap ((q : Int) + 33) = (q33 : Int) := by rw [IntKind.wrap_i64]; have := Kq33.out; omega
                      have n2 : (q33 : Int) ≤ (xs.length : Int) := by have := Kq33.out; omega
                      have n3 : (xs.length : Int) ≤ (c : Int) := by omega
                      generalize EnC.mk n SN ((xs.drop q1).take 32) = EF at *
                      clear hids hEk hE0 hBk e1
                      have KRg : Kept (wr.rangeAt wD.heap.size 0 EF.l) := ⟨KEk.out.range⟩
                      obtain ⟨CF, hCF⟩ : ∃ CF, EF.l = CF := ⟨_, rfl⟩
                      have KCF := Kept.mk hCF
                      rw [hCF] at KIf KZf KOf KRg KIl
                      clear hCF
                      have KRgd : Kept (wr.drew.rangeAt wD.heap.size 0 CF) := ⟨KRg.out⟩
                      have KE0d : Kept (EnB wr.drew w.heap.size e0E) := ⟨KE0.out⟩
                      have KBkd : Kept (Below w1.heap.size w1 wr.drew) := ⟨KBk.out.drew⟩
                      obtain ⟨wF, hwF⟩ : ∃ wF, wr.drew.setRow w.heap.size CF.toArray = wF := ⟨_, rfl⟩
                      have KhF : Kept (wF.heap[w.heap.size]? = some (.cells CF.toArray 33)) := ⟨by rw [← hwF]; exact setRow_heap _ _ _ _ _ _ KE0d.out⟩
                      have KRgF : Kept (wF.rangeAt wD.heap.size 0 CF) := ⟨fun j u hu => by
                        have := KRgd.out j u hu
                        rw [← hwF]
                        have hne : wD.heap.size ≠ w.heap.size := by have := Ksz.out; omega
                        simp only [World.cell?, setRow_other _ _ _ _ hne] at this ⊢
                        exact this⟩
                      have KBF : Kept (Below w.heap.size w wF) := ⟨by
                        have h5 := KB1.out.trans (KBkd.out.mono KB1.out.size)
                        rw [← hwF]
                        exact ⟨h5.os, h5.tape, h5.output, by simpa using h5.size, fun k hk => by rw [setRow_other _ _ _ _ (by omega)]; exact h5.block k hk⟩⟩
                      have KwF := Kept.mk hwF
                      clear hwF
                      have KRn : Kept (∀ a cc, Rd .u8 S w (.slice a (xs.length - q33) cc) (xs.drop q33) → NxEnd S xs w (.returned (.tuple #[.agg CF.toArray, .slice a (xs.length - q33) cc, .bool true])) wF) := ⟨fun a cc hrd => .inr ⟨EF, xs.drop q33, _, Kyes.out, Kok.out, by rw [KCF.out], hrd, KBF.out⟩⟩
                      by_cases hcq : c = q33
                      · go_upto_region 14 with fail
                        refine wp_region_noPanic ?_
                        refine wp_region_held_drew (S := fun W => W.rangeAt wD.heap.size 0 CF) (by kernel_rfl) KRgd.out (fun hHeld => ?_)
                        have hSF := KRgd.out
                        have hu42 := Tryz.underlying33
                        refine wpAnyH_takeD (i := 0) (d := some 73) (v := .agg CF.toArray) rfl rfl (by kernel_rfl) (by kernel_rfl) (by kernel_rfl) (fun _ _ _ h => h) (yieldsIf_load_mid (by rfl) _ _ rfl _ _ rfl CF _ (fun W hSw => hSw) hu42 rfl KIl.out) (by assumption) ?_
                        simp only [Act.put, List.setIfInBounds_toArray, List.set_cons_zero, List.set_cons_succ]
                        refine wpAnyH_takeD (i := 1) (d := some 74) (v := .slice (some ⟨b, off, none⟩) xs.length c) rfl rfl (by kernel_rfl) (by kernel_rfl) (by kernel_rfl) (fun _ _ _ h => h) (Or.inl ⟨by rfl, fun W hSw => by (try dsimp only at hSw); go_simp⟩) (by assumption) ?_
                        simp only [Act.put, List.setIfInBounds_toArray, List.set_cons_zero, List.set_cons_succ]
                        refine wpAnyH_takeD (i := 2) (d := some 75) (v := .int .i64 q) rfl rfl (by kernel_rfl) (by kernel_rfl) (by kernel_rfl) (fun _ _ _ h => h) (Or.inl ⟨by rfl, fun W hSw => by (try dsimp only at hSw); go_simp⟩) (by assumption) ?_
                        simp only [Act.put, List.setIfInBounds_toArray, List.set_cons_zero, List.set_cons_succ]
                        refine wpAnyH_takeD (i := 3) (d := some 76) (v := .int .i64 q33) rfl rfl (by kernel_rfl) (by kernel_rfl) (by kernel_rfl) (fun _ _ _ h => h) (Or.inl ⟨by rfl, fun W hSw => by (try dsimp only at hSw); go_simp⟩) (by assumption) ?_
                        simp only [Act.put, List.setIfInBounds_toArray, List.set_cons_zero, List.set_cons_succ]
                        refine wpAnyH_takeD (i := 4) (d := some 77) (v := .slice (some ⟨b, off, none⟩) (xs.length - q33) 0) rfl rfl (by kernel_rfl) (by kernel_rfl) (by kernel_rfl) (fun _ _ _ h => h) (Or.inl ⟨by rfl, fun W hSw => by (try dsimp only at hSw); go_simp⟩) (by assumption) ?_
                        simp only [Act.put, List.setIfInBounds_toArray, List.set_cons_zero, List.set_cons_succ]
                        refine wpAnyH_ready (rs := [5]) (by kernel_rfl) (by simp) ?_
                        refine AllReadyH.cons (o := _) rfl (fun K hK => ?_) AllReadyH.nil
                        clear hHeld hSF
                        refine wp_store_row 33 _ _ rfl w.heap.size CF.toArray rfl rfl 33 _ KE0d.out KIf.out (by rw [KZf.out]; rfl) KOf.out ?_
                        rw [KwF.out]
                        have hSF := KRgF.out
                        refine hK.out _ _ hSF (fun hHeld => ?_)
                        clear hK K
                        refine wpAnyH_takeD (i := 6) (d := some 3) (v := .slice (some ⟨b, off, none⟩) (xs.length - q33) 0) rfl rfl (by kernel_rfl) (by kernel_rfl) (by kernel_rfl) (fun _ _ _ h => h) (Or.inl ⟨by rfl, fun W hSw => by (try dsimp only at hSw); go_simp⟩) (by assumption) ?_
                        dsimp only [Act.put]
                        refine wpAnyH_takeD (i := 7) (d := some 4) (v := .bool true) rfl rfl (by kernel_rfl) (by kernel_rfl) (by kernel_rfl) (fun _ _ _ h => h) (Or.inl ⟨by rfl, fun W hSw => by (try dsimp only at hSw); go_simp⟩) (by assumption) ?_
                        dsimp only [Act.put]
                        refine wpAnyH_done (by kernel_rfl) ?_ _
                        refine NoPanic.normal ?_
                        go_wp2
                        refine bodyPost_ret (v := .tuple #[.agg CF.toArray, .slice (some ⟨b, off, none⟩) (xs.length - q33) 0, .bool true]) (results_rtt (p := 2) (ty := 33) Tryz.results39 _ _ w.heap.size 33 _ (0, 0) _ rfl KhF.out Tryz.underlying33 rfl KIf.out) rfl ?_
                        exact KRn.out _ _ (by
                          have h0 : xs.length - q33 = 0 := by omega
                          rw [h0, List.drop_eq_nil_of_le (by omega)]
                          exact ⟨_, 0, rfl, Nat.zero_le _, Nat.zero_le _, (fun _ => rfl), (fun h => by simp at h)⟩)
                      · go_upto_region 14 with fail
                        refine wp_region_noPanic ?_
                        refine wp_region_held_drew (S := fun W => W.rangeAt wD.heap.size 0 CF) (by kernel_rfl) KRgd.out (fun hHeld => ?_)
                        have hSF := KRgd.out
                        have hu42 := Tryz.underlying33
                        refine wpAnyH_takeD (i := 0) (d := some 73) (v := .agg CF.toArray) rfl rfl (by kernel_rfl) (by kernel_rfl) (by kernel_rfl) (fun _ _ _ h => h) (yieldsIf_load_mid (by rfl) _ _ rfl _ _ rfl CF _ (fun W hSw => hSw) hu42 rfl KIl.out) (by assumption) ?_
                        simp only [Act.put, List.setIfInBounds_toArray, List.set_cons_zero, List.set_cons_succ]
                        refine wpAnyH_takeD (i := 1) (d := some 74) (v := .slice (some ⟨b, off, none⟩) xs.length c) rfl rfl (by kernel_rfl) (by kernel_rfl) (by kernel_rfl) (fun _ _ _ h => h) (Or.inl ⟨by rfl, fun W hSw => by (try dsimp only at hSw); go_simp⟩) (by assumption) ?_
                        simp only [Act.put, List.setIfInBounds_toArray, List.set_cons_zero, List.set_cons_succ]
                        refine wpAnyH_takeD (i := 2) (d := some 75) (v := .int .i64 q) rfl rfl (by kernel_rfl) (by kernel_rfl) (by kernel_rfl) (fun _ _ _ h => h) (Or.inl ⟨by rfl, fun W hSw => by (try dsimp only at hSw); go_simp⟩) (by assumption) ?_
                        simp only [Act.put, List.setIfInBounds_toArray, List.set_cons_zero, List.set_cons_succ]
                        refine wpAnyH_takeD (i := 3) (d := some 76) (v := .int .i64 q33) rfl rfl (by kernel_rfl) (by kernel_rfl) (by kernel_rfl) (fun _ _ _ h => h) (Or.inl ⟨by rfl, fun W hSw => by (try dsimp only at hSw); go_simp⟩) (by assumption) ?_
                        simp only [Act.put, List.setIfInBounds_toArray, List.set_cons_zero, List.set_cons_succ]
                        refine wpAnyH_takeD (i := 4) (d := some 77) (v := .slice (some ⟨b, off + q33, none⟩) (xs.length - q33) (c - q33)) rfl rfl (by kernel_rfl) (by kernel_rfl) (by kernel_rfl) (fun _ _ _ h => h) (Or.inl ⟨by rfl, fun W hSw => by (try dsimp only at hSw); go_simp⟩) (by assumption) ?_
                        simp only [Act.put, List.setIfInBounds_toArray, List.set_cons_zero, List.set_cons_succ]
                        refine wpAnyH_ready (rs := [5]) (by kernel_rfl) (by simp) ?_
                        refine AllReadyH.cons (o := _) rfl (fun K hK => ?_) AllReadyH.nil
                        clear hHeld hSF
                        refine wp_store_row 33 _ _ rfl w.heap.size CF.toArray rfl rfl 33 _ KE0d.out KIf.out (by rw [KZf.out]; rfl) KOf.out ?_
                        rw [KwF.out]
                        have hSF := KRgF.out
                        refine hK.out _ _ hSF (fun hHeld => ?_)
                        clear hK K
                        refine wpAnyH_takeD (i := 6) (d := some 3) (v := .slice (some ⟨b, off + q33, none⟩) (xs.length - q33) (c - q33)) rfl rfl (by kernel_rfl) (by kernel_rfl) (by kernel_rfl) (fun _ _ _ h => h) (Or.inl ⟨by rfl, fun W hSw => by (try dsimp only at hSw); go_simp⟩) (by assumption) ?_
                        dsimp only [Act.put]
                        refine wpAnyH_takeD (i := 7) (d := some 4) (v := .bool true) rfl rfl (by kernel_rfl) (by kernel_rfl) (by kernel_rfl) (fun _ _ _ h => h) (Or.inl ⟨by rfl, fun W hSw => by (try dsimp only at hSw); go_simp⟩) (by assumption) ?_
                        dsimp only [Act.put]
                        refine wpAnyH_done (by kernel_rfl) ?_ _
                        refine NoPanic.normal ?_
                        go_wp2
                        refine bodyPost_ret (v := .tuple #[.agg CF.toArray, .slice (some ⟨b, off + q33, none⟩) (xs.length - q33) (c - q33), .bool true]) (results_rtt (p := 2) (ty := 33) Tryz.results39 _ _ w.heap.size 33 _ (0, 0) _ rfl KhF.out Tryz.underlying33 rfl KIf.out) rfl ?_
                        exact KRn.out _ _ (by
                          have := rd_part (lo := q33) (n := xs.length - q33) (c := c - q33) KSb.out Kblt.out KC.out (by omega) (by omega) (Nat.le_trans (Nat.sub_le _ _) Kcm.out)
                          rwa [List.take_of_length_le (by rw [List.length_drop]; omega)] at this)
                · clear hHeld
                  go_simp
                  generalize hOb : Obj.cells (_ : Array Value) 33 = Ob
                  have hOb2 : Ob = Obj.cells e0E.l.toArray 33 := by subst hOb; rfl
                  subst hOb2
                  clear hOb
                  rw [hwa]
                  refine hK.out _ _ KB1a.out (fun hHeld => ?_)
                  clear hK K
                  refine wpAnyH_ready (rs := [4]) (by kernel_rfl) (by simp) ?_
                  refine AllReadyH.cons (o := _) rfl (fun K hK => ?_) AllReadyH.nil
                  clear hHeld
                  go_simp
                  refine Calls.mono (KOc.out wa) (fun e w10 hp10 => ?_)
                  obtain ⟨n, rfl, hoct, hw10⟩ := hp10
                  have hw10 := hw10.symm
                  subst hw10
                  have KOct := Kept.mk hoct
                  have Kn : Kept (-1 ≤ n ∧ n < 262144) := ⟨hoct.lo, hoct.hi⟩
                  refine hK.out _ _ KB1a.out (fun hHeld => ?_)
                  clear hK K hoct
                  have hSD := KB1a.out
                  refine wpAnyH_takeD (i := 11) (d := some 58) (v := .agg (EnC.l ⟨n, SN, z32L⟩).toArray) rfl rfl (by kernel_rfl) (by kernel_rfl) (by kernel_rfl) (fun _ _ _ h => h) (yieldsIf_buildE (by rfl) _ _ rfl n SN rfl rfl) (by assumption) ?_
                  simp only [Act.put, List.setIfInBounds_toArray, List.set_cons_zero, List.set_cons_succ]
                  have hok0 : (EnC.mk n SN z32L).ok := ⟨by simp [z32L], fun x hx => by rw [List.eq_of_mem_replicate hx]; omega, by have := Kn.out; simp only; omega, by have := Kn.out; simp only; omega, by have := KSN.out; simp only; omega⟩
                  obtain ⟨wS, hwS⟩ : ∃ wS, wa.setRow wD.heap.size (EnC.l ⟨n, SN, z32L⟩).toArray = wS := ⟨_, rfl⟩
                  have hES : EnB wS wD.heap.size ⟨n, SN, z32L⟩ := by rw [← hwS]; exact setRow_heap _ _ _ _ _ _ Khwa.out
                  have hBS : Below w1.heap.size w1 wS := by rw [← hwS]; have h5 := KB1a.out; have hsz := Ksz.out; exact ⟨h5.os, h5.tape, h5.output, by simpa using h5.size, fun k hk => by rw [setRow_other _ _ _ _ (by omega)]; exact h5.block k hk⟩
                  have KIn := Kept.mk (e_info hok0)
                  have KZn := Kept.mk (e_size hok0)
                  have KOn := Kept.mk (e_ones ⟨n, SN, z32L⟩)
                  have KES := Kept.mk hES
                  have KBS := Kept.mk hBS
                  have KwS := Kept.mk hwS
                  clear hok0 hES hBS hwS hwa
                  obtain ⟨C0, hC0⟩ : ∃ C0, EnC.l ⟨n, SN, z32L⟩ = C0 := ⟨_, rfl⟩
                  rw [hC0] at KIn KZn KOn KwS ⊢
                  clear hC0
                  refine wpAnyH_ready (rs := [13]) (by kernel_rfl) (by simp) ?_
                  refine AllReadyH.cons (o := _) rfl (fun K hK => ?_) AllReadyH.nil
                  clear hHeld
                  refine wp_store_row 33 _ _ rfl wD.heap.size C0.toArray rfl rfl 33 _ Khwa.out KIn.out (by rw [KZn.out]; rfl) KOn.out ?_
                  rw [KwS.out]
                  refine hK.out _ _ KBS.out (fun hHeld => ?_)
                  clear hK K hHeld KwS KIn KZn KOn
                  refine wpAnyH_done (by kernel_rfl) ?_ _
                  refine NoPanic.normal ?_
                  have KI1 : Kept (∀ k, k < 32 → ((xs.drop q1).take k ++ List.replicate (32 - k) 0).set k (xs.getD (q1 + k) 0) = (xs.drop q1).take (k + 1) ++ List.replicate (32 - (k + 1)) 0 ∧ ((xs.drop q1).take k ++ List.replicate (32 - k) 0).length = 32) := ⟨fun k hk => ids_step xs q1 k hk (by have := Kq1.out; omega)⟩
                  go_wp2_with fail
                  go_loopw [8] (fun iv wr => ∃ k : Nat, k ≤ 32 ∧ iv = .int .i64 k ∧ EnB wr wD.heap.size ⟨n, SN, (xs.drop q1).take k ++ List.replicate (32 - k) 0⟩ ∧ EnB wr w.heap.size e0E ∧ Below w1.heap.size w1 wr) (fun iv _ => 32 - (intOf iv).toNat)
                  case atStart => exact ⟨0, Nat.zero_le _, rfl, KES.out, KE1.out.far KBS.out Ksz.out.2, KBS.out⟩
                  case round =>
                    obtain ⟨k, hk, rfl, hEk, hE0, hBk⟩ := hrel
                    have KEk := Kept.mk hEk
                    have KE0 := Kept.mk hE0
                    have KBk := Kept.mk hBk
                    clear KE1 KES KBS KB1a Khwa
                    by_cases hlt : k < 32
                    · have hki : (k : Int) < 32 := by omega
                      obtain ⟨hst, hln⟩ := KI1.out k hlt
                      obtain ⟨r, hr⟩ : ∃ r, r = q1 + k := ⟨_, rfl⟩
                      have m1 : IntKind.i64.wrap ((q1 : Int) + (k : Int)) = (r : Int) := by rw [IntKind.wrap_i64]; have := Kq1.out; omega
                      have m2 : (r : Int) < (xs.length : Int) := by have := Kq1.out; omega
                      have m3 : IntKind.i64.wrap ((k : Int) + 1) = (k : Int) + 1 := by rw [IntKind.wrap_i64]; omega
                      have hcr : wr.cell? ⟨b, off + r, none⟩ = some (.int .u8 (xs.getD r 0)) := by rw [hBk.cell (p := ⟨b, off + r, none⟩) (Nat.lt_of_lt_of_le Kblt.out KB1.out.size)]; exact KC1.out r (by have := Kq1.out; omega)
                      have hcF := hEk.cellI k (by rw [hln]; exact hlt)
                      have hfz := hEk.frozen (2 + k)
                      rw [← hr] at hst
                      have KSt := Kept.mk hst
                      generalize xs.getD r 0 = y at *
                      generalize hids : (xs.drop q1).take k ++ List.replicate (32 - k) 0 = ids at *
                      simp only at hcF
                      generalize ids.getD k 0 = y0 at *
                      clear hst hln hEk hE0 hBk hr hids
                      go_wp2
                      go_roundw
                      case rel => exact ⟨k + 1, by omega, by go_num, by rw [← KSt.out]; exact KEk.out.setI k _, KE0.out.other (by have := Ksz.out; omega) _, KBk.out.setCell (by have := Ksz.out; exact this.1) _⟩
                      case measure => simp [intOf]; omega
                    · obtain rfl : k = 32 := by omega
                      have hids : (xs.drop q1).take 32 ++ List.replicate (32 - 32) 0 = (xs.drop q1).take 32 := by simp
                      rw [hids] at KEk
                      have Kyes : Kept (NxYes xs ⟨n, SN, (xs.drop q1).take 32⟩ (xs.drop q33)) := ⟨⟨⟨p, q, KY.out, KOct.out, KNe.out, by rw [Kq1.out], by rw [Kq33.out]⟩⟩⟩
                      have Kok : Kept (EnC.mk n SN ((xs.drop q1).take 32)).ok := ⟨⟨by simp only; rw [List.length_take, List.length_drop]; have := Kq1.out; omega, fun x hx => KA.out x (List.mem_of_mem_drop (List.mem_of_mem_take hx)), by have := Kn.out; simp only; omega, by have := Kn.out; simp only; omega, by have := KSN.out; simp only; omega⟩⟩
                      have KIf := Kept.mk (e_info Kok.out)
                      have KIl : Kept ((Tryz.prog.info? 33).map (·.size) = some (EnC.mk n SN ((xs.drop q1).take 32)).l.length) := ⟨by rw [EnC.len Kok.out]; kernel_rfl⟩
                      have KZf := Kept.mk (e_size Kok.out)
                      have KOf := Kept.mk (e_ones ⟨n, SN, (xs.drop q1).take 32⟩)
                      have hi1 : ¬ (32 : Int) < 32 := by omega
                      have n1 : IntKind.i64.wrap ((q : Int) + 33) = (q33 : Int) := by rw [IntKind.wrap_i64]; have := Kq33.out; omega
                      have n2 : (q33 : Int) ≤ (xs.length : Int) := by have := Kq33.out; omega
                      have n3 : (xs.length : Int) ≤ (c : Int) := by omega
                      generalize EnC.mk n SN ((xs.drop q1).take 32) = EF at *
                      clear hids hEk hE0 hBk e1
                      have KRg : Kept (wr.rangeAt wD.heap.size 0 EF.l) := ⟨KEk.out.range⟩
                      obtain ⟨CF, hCF⟩ : ∃ CF, EF.l = CF := ⟨_, rfl⟩
                      have KCF := Kept.mk hCF
                      rw [hCF] at KIf KZf KOf KRg KIl
                      clear hCF
                      have KRgd : Kept (wr.drew.rangeAt wD.heap.size 0 CF) := ⟨KRg.out⟩
                      have KE0d : Kept (EnB wr.drew w.heap.size e0E) := ⟨KE0.out⟩
                      have KBkd : Kept (Below w1.heap.size w1 wr.drew) := ⟨KBk.out.drew⟩
                      obtain ⟨wF, hwF⟩ : ∃ wF, wr.drew.setRow w.heap.size CF.toArray = wF := ⟨_, rfl⟩
                      have KhF : Kept (wF.heap[w.heap.size]? = some (.cells CF.toArray 33)) := ⟨by rw [← hwF]; exact setRow_heap _ _ _ _ _ _ KE0d.out⟩
                      have KRgF : Kept (wF.rangeAt wD.heap.size 0 CF) := ⟨fun j u hu => by
                        have := KRgd.out j u hu
                        rw [← hwF]
                        have hne : wD.heap.size ≠ w.heap.size := by have := Ksz.out; omega
                        simp only [World.cell?, setRow_other _ _ _ _ hne] at this ⊢
                        exact this⟩
                      have KBF : Kept (Below w.heap.size w wF) := ⟨by
                        have h5 := KB1.out.trans (KBkd.out.mono KB1.out.size)
                        rw [← hwF]
                        exact ⟨h5.os, h5.tape, h5.output, by simpa using h5.size, fun k hk => by rw [setRow_other _ _ _ _ (by omega)]; exact h5.block k hk⟩⟩
                      have KwF := Kept.mk hwF
                      clear hwF
                      have KRn : Kept (∀ a cc, Rd .u8 S w (.slice a (xs.length - q33) cc) (xs.drop q33) → NxEnd S xs w (.returned (.tuple #[.agg CF.toArray, .slice a (xs.length - q33) cc, .bool true])) wF) := ⟨fun a cc hrd => .inr ⟨EF, xs.drop q33, _, Kyes.out, Kok.out, by rw [KCF.out], hrd, KBF.out⟩⟩
                      by_cases hcq : c = q33
                      · go_upto_region 14 with fail
                        refine wp_region_noPanic ?_
                        refine wp_region_held_drew (S := fun W => W.rangeAt wD.heap.size 0 CF) (by kernel_rfl) KRgd.out (fun hHeld => ?_)
                        have hSF := KRgd.out
                        have hu42 := Tryz.underlying33
                        refine wpAnyH_takeD (i := 0) (d := some 73) (v := .agg CF.toArray) rfl rfl (by kernel_rfl) (by kernel_rfl) (by kernel_rfl) (fun _ _ _ h => h) (yieldsIf_load_mid (by rfl) _ _ rfl _ _ rfl CF _ (fun W hSw => hSw) hu42 rfl KIl.out) (by assumption) ?_
                        simp only [Act.put, List.setIfInBounds_toArray, List.set_cons_zero, List.set_cons_succ]
                        refine wpAnyH_takeD (i := 1) (d := some 74) (v := .slice (some ⟨b, off, none⟩) xs.length c) rfl rfl (by kernel_rfl) (by kernel_rfl) (by kernel_rfl) (fun _ _ _ h => h) (Or.inl ⟨by rfl, fun W hSw => by (try dsimp only at hSw); go_simp⟩) (by assumption) ?_
                        simp only [Act.put, List.setIfInBounds_toArray, List.set_cons_zero, List.set_cons_succ]
                        refine wpAnyH_takeD (i := 2) (d := some 75) (v := .int .i64 q) rfl rfl (by kernel_rfl) (by kernel_rfl) (by kernel_rfl) (fun _ _ _ h => h) (Or.inl ⟨by rfl, fun W hSw => by (try dsimp only at hSw); go_simp⟩) (by assumption) ?_
                        simp only [Act.put, List.setIfInBounds_toArray, List.set_cons_zero, List.set_cons_succ]
                        refine wpAnyH_takeD (i := 3) (d := some 76) (v := .int .i64 q33) rfl rfl (by kernel_rfl) (by kernel_rfl) (by kernel_rfl) (fun _ _ _ h => h) (Or.inl ⟨by rfl, fun W hSw => by (try dsimp only at hSw); go_simp⟩) (by assumption) ?_
                        simp only [Act.put, List.setIfInBounds_toArray, List.set_cons_zero, List.set_cons_succ]
                        refine wpAnyH_takeD (i := 4) (d := some 77) (v := .slice (some ⟨b, off, none⟩) (xs.length - q33) 0) rfl rfl (by kernel_rfl) (by kernel_rfl) (by kernel_rfl) (fun _ _ _ h => h) (Or.inl ⟨by rfl, fun W hSw => by (try dsimp only at hSw); go_simp⟩) (by assumption) ?_
                        simp only [Act.put, List.setIfInBounds_toArray, List.set_cons_zero, List.set_cons_succ]
                        refine wpAnyH_ready (rs := [5]) (by kernel_rfl) (by simp) ?_
                        refine AllReadyH.cons (o := _) rfl (fun K hK => ?_) AllReadyH.nil
                        clear hHeld hSF
                        refine wp_store_row 33 _ _ rfl w.heap.size CF.toArray rfl rfl 33 _ KE0d.out KIf.out (by rw [KZf.out]; rfl) KOf.out ?_
                        rw [KwF.out]
                        have hSF := KRgF.out
                        refine hK.out _ _ hSF (fun hHeld => ?_)
                        clear hK K
                        refine wpAnyH_takeD (i := 6) (d := some 3) (v := .slice (some ⟨b, off, none⟩) (xs.length - q33) 0) rfl rfl (by kernel_rfl) (by kernel_rfl) (by kernel_rfl) (fun _ _ _ h => h) (Or.inl ⟨by rfl, fun W hSw => by (try dsimp only at hSw); go_simp⟩) (by assumption) ?_
                        dsimp only [Act.put]
                        refine wpAnyH_takeD (i := 7) (d := some 4) (v := .bool true) rfl rfl (by kernel_rfl) (by kernel_rfl) (by kernel_rfl) (fun _ _ _ h => h) (Or.inl ⟨by rfl, fun W hSw => by (try dsimp only at hSw); go_simp⟩) (by assumption) ?_
                        dsimp only [Act.put]
                        refine wpAnyH_done (by kernel_rfl) ?_ _
                        refine NoPanic.normal ?_
                        go_wp2
                        refine bodyPost_ret (v := .tuple #[.agg CF.toArray, .slice (some ⟨b, off, none⟩) (xs.length - q33) 0, .bool true]) (results_rtt (p := 2) (ty := 33) Tryz.results39 _ _ w.heap.size 33 _ (0, 0) _ rfl KhF.out Tryz.underlying33 rfl KIf.out) rfl ?_
                        exact KRn.out _ _ (by
                          have h0 : xs.length - q33 = 0 := by omega
                          rw [h0, List.drop_eq_nil_of_le (by omega)]
                          exact ⟨_, 0, rfl, Nat.zero_le _, Nat.zero_le _, (fun _ => rfl), (fun h => by simp at h)⟩)
                      · go_upto_region 14 with fail
                        refine wp_region_noPanic ?_
                        refine wp_region_held_drew (S := fun W => W.rangeAt wD.heap.size 0 CF) (by kernel_rfl) KRgd.out (fun hHeld => ?_)
                        have hSF := KRgd.out
                        have hu42 := Tryz.underlying33
                        refine wpAnyH_takeD (i := 0) (d := some 73) (v := .agg CF.toArray) rfl rfl (by kernel_rfl) (by kernel_rfl) (by kernel_rfl) (fun _ _ _ h => h) (yieldsIf_load_mid (by rfl) _ _ rfl _ _ rfl CF _ (fun W hSw => hSw) hu42 rfl KIl.out) (by assumption) ?_
                        simp only [Act.put, List.setIfInBounds_toArray, List.set_cons_zero, List.set_cons_succ]
                        refine wpAnyH_takeD (i := 1) (d := some 74) (v := .slice (some ⟨b, off, none⟩) xs.length c) rfl rfl (by kernel_rfl) (by kernel_rfl) (by kernel_rfl) (fun _ _ _ h => h) (Or.inl ⟨by rfl, fun W hSw => by (try dsimp only at hSw); go_simp⟩) (by assumption) ?_
                        simp only [Act.put, List.setIfInBounds_toArray, List.set_cons_zero, List.set_cons_succ]
                        refine wpAnyH_takeD (i := 2) (d := some 75) (v := .int .i64 q) rfl rfl (by kernel_rfl) (by kernel_rfl) (by kernel_rfl) (fun _ _ _ h => h) (Or.inl ⟨by rfl, fun W hSw => by (try dsimp only at hSw); go_simp⟩) (by assumption) ?_
                        simp only [Act.put, List.setIfInBounds_toArray, List.set_cons_zero, List.set_cons_succ]
                        refine wpAnyH_takeD (i := 3) (d := some 76) (v := .int .i64 q33) rfl rfl (by kernel_rfl) (by kernel_rfl) (by kernel_rfl) (fun _ _ _ h => h) (Or.inl ⟨by rfl, fun W hSw => by (try dsimp only at hSw); go_simp⟩) (by assumption) ?_
                        simp only [Act.put, List.setIfInBounds_toArray, List.set_cons_zero, List.set_cons_succ]
                        refine wpAnyH_takeD (i := 4) (d := some 77) (v := .slice (some ⟨b, off + q33, none⟩) (xs.length - q33) (c - q33)) rfl rfl (by kernel_rfl) (by kernel_rfl) (by kernel_rfl) (fun _ _ _ h => h) (Or.inl ⟨by rfl, fun W hSw => by (try dsimp only at hSw); go_simp⟩) (by assumption) ?_
                        simp only [Act.put, List.setIfInBounds_toArray, List.set_cons_zero, List.set_cons_succ]
                        refine wpAnyH_ready (rs := [5]) (by kernel_rfl) (by simp) ?_
                        refine AllReadyH.cons (o := _) rfl (fun K hK => ?_) AllReadyH.nil
                        clear hHeld hSF
                        refine wp_store_row 33 _ _ rfl w.heap.size CF.toArray rfl rfl 33 _ KE0d.out KIf.out (by rw [KZf.out]; rfl) KOf.out ?_
                        rw [KwF.out]
                        have hSF := KRgF.out
                        refine hK.out _ _ hSF (fun hHeld => ?_)
                        clear hK K
                        refine wpAnyH_takeD (i := 6) (d := some 3) (v := .slice (some ⟨b, off + q33, none⟩) (xs.length - q33) (c - q33)) rfl rfl (by kernel_rfl) (by kernel_rfl) (by kernel_rfl) (fun _ _ _ h => h) (Or.inl ⟨by rfl, fun W hSw => by (try dsimp only at hSw); go_simp⟩) (by assumption) ?_
                        dsimp only [Act.put]
                        refine wpAnyH_takeD (i := 7) (d := some 4) (v := .bool true) rfl rfl (by kernel_rfl) (by kernel_rfl) (by kernel_rfl) (fun _ _ _ h => h) (Or.inl ⟨by rfl, fun W hSw => by (try dsimp only at hSw); go_simp⟩) (by assumption) ?_
                        dsimp only [Act.put]
                        refine wpAnyH_done (by kernel_rfl) ?_ _
                        refine NoPanic.normal ?_
                        go_wp2
                        refine bodyPost_ret (v := .tuple #[.agg CF.toArray, .slice (some ⟨b, off + q33, none⟩) (xs.length - q33) (c - q33), .bool true]) (results_rtt (p := 2) (ty := 33) Tryz.results39 _ _ w.heap.size 33 _ (0, 0) _ rfl KhF.out Tryz.underlying33 rfl KIf.out) rfl ?_
                        exact KRn.out _ _ (by
                          have := rd_part (lo := q33) (n := xs.length - q33) (c := c - q33) KSb.out Kblt.out KC.out (by omega) (by omega) (Nat.le_trans (Nat.sub_le _ _) Kcm.out)
                          rwa [List.take_of_length_le (by rw [List.length_drop]; omega)] at this)
              · have g2 : (xs.length : Int) < (q : Int) + 33 := by omega
                have KN : Kept (NxNo xs) := ⟨nx_no_c Kno.out Kis.out Kn0.out (by omega)⟩
                go_wp2_with (first | (refine wpList_build0E rfl rfl ?_) | (refine BigFrame.wpList_want rfl (fun K hK => wp_store_row 33 _ _ rfl w.heap.size e0E.l.toArray rfl rfl 33 _ KE1.out KI0.out rfl KO0.out (hK _ _ ?_))))
                have HF : Kept ((w1.setRow w.heap.size e0E.l.toArray).heap[w.heap.size]? = some (.cells e0E.l.toArray 33)) := ⟨setRow_heap _ _ _ _ _ _ KE1.out⟩
                have HB : Kept (Below w.heap.size w (w1.setRow w.heap.size e0E.l.toArray)) := ⟨⟨KB1.out.os, KB1.out.tape, KB1.out.output, by simpa using KB1.out.size, fun k hk => by rw [setRow_other _ _ _ _ (by omega)]; exact KB1.out.block k hk⟩⟩
                refine bodyPost_ret (v := .tuple #[.agg e0E.l.toArray, .slice none 0 0, .bool false]) (results_rtt (p := 2) (ty := 33) Tryz.results39 _ _ w.heap.size 33 _ (0, 0) _ rfl HF.out Tryz.underlying33 rfl KI0.out) rfl ?_
                exact .inl ⟨KN.out, rfl, HB.out⟩
            · have hx' : ¬ xs.getD q 0 = 0 := hx
              have KR : Kept (∀ j, p ≤ j → j < q + 1 → xs.getD j 0 ≠ 0) := ⟨fun j h1 h2 => by
                rcases Nat.lt_or_ge j q with h | h
                · exact Kn0.out j h1 h
                · rw [show j = q by omega]; exact hx⟩
              have e3 : IntKind.i64.wrap ((q : Int) + 1) = (q : Int) + 1 := by rw [IntKind.wrap_i64]; omega
              clear hno
              generalize xs.getD q 0 = y at *
              go_wp2
              go_roundw
              case rel => exact ⟨q + 1, by omega, by omega, by go_num, trivial, KR.out⟩
              case measure => simp [intOf]; omega
          · have hqi : ¬ (q : Int) < (xs.length : Int) := by omega
            obtain rfl : q = xs.length := by omega
            have KN : Kept (NxNo xs) := ⟨nx_no_b Kno.out Kis.out hno⟩
            have g1 : ¬ (xs.length : Int) ≤ (p : Int) := by omega
            have e1 : IntKind.i64.wrap ((xs.length : Int) + 33) = (xs.length : Int) + 33 := by rw [IntKind.wrap_i64]; omega
            have g2 : (xs.length : Int) < (xs.length : Int) + 33 := by omega
            clear hno
            go_wp2_with (first | (refine wpList_build0E rfl rfl ?_) | (refine BigFrame.wpList_want rfl (fun K hK => wp_store_row 33 _ _ rfl w.heap.size e0E.l.toArray rfl rfl 33 _ KE1.out KI0.out rfl KO0.out (hK _ _ ?_))))
            have HF : Kept ((w1.setRow w.heap.size e0E.l.toArray).heap[w.heap.size]? = some (.cells e0E.l.toArray 33)) := ⟨setRow_heap _ _ _ _ _ _ KE1.out⟩
            have HB : Kept (Below w.heap.size w (w1.setRow w.heap.size e0E.l.toArray)) := ⟨⟨KB1.out.os, KB1.out.tape, KB1.out.output, by simpa using KB1.out.size, fun k hk => by rw [setRow_other _ _ _ _ (by omega)]; exact KB1.out.block k hk⟩⟩
            refine bodyPost_ret (v := .tuple #[.agg e0E.l.toArray, .slice none 0 0, .bool false]) (results_rtt (p := 2) (ty := 33) Tryz.results39 _ _ w.heap.size 33 _ (0, 0) _ rfl HF.out Tryz.underlying33 rfl KI0.out) rfl ?_
            exact .inl ⟨KN.out, rfl, HB.out⟩
      · have KR : Kept (∀ j, j < p + 1 → xs.getD j 0 ≠ 32) := ⟨fun j h2 => by
          rcases Nat.lt_or_ge j p with h | h
          · exact Kno.out j h
          · rw [show j = p by omega]; exact hx⟩
        have e3 : IntKind.i64.wrap ((p : Int) + 1) = (p : Int) + 1 := by rw [IntKind.wrap_i64]; omega
        clear hno
        generalize xs.getD p 0 = y at *
        go_wp2
        go_roundw
        case rel => exact ⟨p + 1, by omega, by go_num, trivial, KR.out⟩
        case measure => simp [intOf]; omega
    · have hpi : ¬ (p : Int) < (xs.length : Int) := by omega
      obtain rfl : p = xs.length := by omega
      have KN : Kept (NxNo xs) := ⟨nx_no_a hno⟩
      clear hno
      go_wp2_with fail
      go_loopw [6] (fun bv wr => bv = .int .i64 xs.length ∧ wr = w1) (fun bv _ => 0)
      case atStart => exact ⟨rfl, rfl⟩
      case round =>
        obtain ⟨rfl, rfl⟩ := hrel
        rename World => w1
        go_wp2_with (first | (refine wpList_build0E rfl rfl ?_) | (refine BigFrame.wpList_want rfl (fun K hK => wp_store_row 33 _ _ rfl w.heap.size e0E.l.toArray rfl rfl 33 _ KE1.out KI0.out rfl KO0.out (hK _ _ ?_))))
        have HF : Kept ((w1.setRow w.heap.size e0E.l.toArray).heap[w.heap.size]? = some (.cells e0E.l.toArray 33)) := ⟨setRow_heap _ _ _ _ _ _ KE1.out⟩
        have HB : Kept (Below w.heap.size w (w1.setRow w.heap.size e0E.l.toArray)) := ⟨⟨KB1.out.os, KB1.out.tape, KB1.out.output, by simpa using KB1.out.size, fun k hk => by rw [setRow_other _ _ _ _ (by omega)]; exact KB1.out.block k hk⟩⟩
        refine bodyPost_ret (v := .tuple #[.agg e0E.l.toArray, .slice none 0 0, .bool false]) (results_rtt (p := 2) (ty := 33) Tryz.results39 _ _ w.heap.size 33 _ (0, 0) _ rfl HF.out Tryz.underlying33 rfl KI0.out) rfl ?_
        exact .inl ⟨KN.out, rfl, HB.out⟩


theorem oidx1 (b : UInt8) (r : List UInt8) : ∀ (a : List UInt8), b ∉ a → Lib.index (a ++ b :: r) [b] = a.length
  | [], _ => by simp [Lib.index, List.isPrefixOf]
  | x :: a, h => by
    have hx : ¬ b = x := fun e => h (by rw [e]; exact List.mem_cons_self)
    have ih := oidx1 b r a (fun e => h (List.mem_cons_of_mem _ e))
    rw [List.cons_append]
    unfold Lib.index
    rw [ih, if_neg (by simp [List.isPrefixOf, hx]), if_neg (by simp)]
    simp
theorem ocut1 (b : UInt8) (a r : List UInt8) (h : b ∉ a) : Lib.cut (a ++ b :: r) [b] = (a, r, true) := by
  unfold Lib.cut
  rw [oidx1 b r a h, if_pos (by omega)]
  simp
theorem oany_mem (chars : List UInt8) : ∀ (l : List UInt8), Lib.containsAny l chars = false → ∀ b ∈ l, b ∉ chars
  | [], _, b, hb => by cases hb
  | x :: l, h, b, hb => by
    unfold Lib.containsAny at h
    have h := of_decide_eq_false h
    unfold Lib.indexAny at h
    by_cases hx : chars.contains x = true
    · rw [if_pos hx] at h; omega
    · rw [if_neg hx] at h
      rcases List.mem_cons.1 hb with rfl | hb
      · simpa using hx
      · refine oany_mem chars l ?_ b hb
        unfold Lib.containsAny
        refine decide_eq_false ?_
        have hg := Lib.indexAny_ge chars l
        split at h
        · rename_i e; have : Lib.indexAny l chars = -1 := by simpa using e
          omega
        · omega
theorem name_no0 {s : ByteArray} (h : nameF s = true) : ∀ b ∈ s.data.toList, b ≠ 0 := by
  unfold nameF at h
  simp only [Bool.and_eq_true, Bool.not_eq_true'] at h
  intro b hb e
  exact oany_mem _ _ h.1.1.1.2 b hb (by rw [e]; simp)
structure GoodE (e : EnC) : Prop where
  nm : nameF e.nm = true
  md : modF e.m = true
  ok : e.ok
theorem mod_oct {m : Int} (h : modF m = true) : IsOct (octS m) ∧ (octS m).length ≤ 6 ∧ octS m ≠ [] ∧ octG 0 (octS m) = m := by
  unfold modF at h
  simp only [Bool.or_eq_true, decide_eq_true_eq] at h
  rcases h with ((rfl | rfl) | rfl) | rfl
  · refine ⟨fun c hc => ?_, by decide, by decide, by decide⟩
    have : ∀ c ∈ octS 16384, 48 ≤ c ∧ c ≤ 55 := by decide
    exact this c hc
  · refine ⟨fun c hc => ?_, by decide, by decide, by decide⟩
    have : ∀ c ∈ octS 33188, 48 ≤ c ∧ c ≤ 55 := by decide
    exact this c hc
  · refine ⟨fun c hc => ?_, by decide, by decide, by decide⟩
    have : ∀ c ∈ octS 33261, 48 ≤ c ∧ c ≤ 55 := by decide
    exact this c hc
  · refine ⟨fun c hc => ?_, by decide, by decide, by decide⟩
    have : ∀ c ∈ octS 40960, 48 ≤ c ∧ c ≤ 55 := by decide
    exact this c hc
structure TrT (xs : List Int) (es : List EnC) : Prop where
  e : treE es = 0
  l : treL es = xs
  ok : ∀ e ∈ es, e.ok
theorem treE_good {es : List EnC} (h : treE es = 0) (hok : ∀ e ∈ es, e.ok) : ∀ e ∈ es, GoodE e := by
  unfold treE at h
  by_cases h1 : 4096 < es.length ∨ 1048576 < tsF es
  · rw [if_pos h1] at h; omega
  · rw [if_neg h1] at h
    by_cases h2 : es.any noName = true
    · rw [if_pos h2] at h; omega
    · rw [if_neg h2] at h
      by_cases h3 : es.any noMode = true ∨ riB es = false
      · rw [if_pos h3] at h; omega
      · intro e he
        refine ⟨?_, ?_, hok e he⟩
        · cases hn : nameF e.nm with
          | true => rfl
          | false => exact absurd (List.any_eq_true.2 ⟨e, he, by unfold noName; rw [hn]; rfl⟩) h2
        · cases hn : modF e.m with
          | true => rfl
          | false => exact absurd (.inl (List.any_eq_true.2 ⟨e, he, by unfold noMode; rw [hn]; rfl⟩)) h3
theorem treL_cons (e : EnC) (es : List EnC) : treL (e :: es) = entL e ++ treL es := by unfold treL; rw [List.flatMap_cons]
theorem entL_form (e : EnC) (s : List Int) : entL e ++ s = octS e.m ++ 32 :: (strL e.nm ++ 0 :: (e.ids ++ s)) := by unfold entL; simp
theorem entL_ne (e : EnC) (s : List Int) : entL e ++ s ≠ [] := by rw [entL_form]; simp
theorem strOf_strL (s : ByteArray) : strOfNums (strL s) = s := by
  unfold strL strOfNums
  rw [List.map_map]
  have : ((fun n : Int => UInt8.ofNat n.toNat) ∘ fun b : UInt8 => (b.toNat : Int)) = id := by
    funext b
    simp
  rw [this, List.map_id]

/-! The document's reader -/
theorem getD_l {A B : List Int} {j : Nat} (h : j < A.length) : (A ++ B).getD j 0 = A.getD j 0 := by
  simp [List.getD, List.getElem?_append_left h]
theorem getD_r {A B : List Int} {j : Nat} (h : A.length ≤ j) : (A ++ B).getD j 0 = B.getD (j - A.length) 0 := by
  simp [List.getD, List.getElem?_append_right h]
theorem getD_mem {A : List Int} {j : Nat} (h : j < A.length) : A.getD j 0 ∈ A := by
  simp [List.getD, List.getElem?_eq_getElem h]
theorem nx_list {A N I s : List Int} (hA : (32 : Int) ∉ A) (hN : (0 : Int) ∉ N) (hI : I.length = 32) : NxAt (A ++ 32 :: (N ++ 0 :: (I ++ s))) A.length (A.length + 1 + N.length) := by
  refine ⟨by omega, by simp; omega, fun j hj => ?_, ?_, fun j h1 h2 => ?_, ?_⟩
  · rw [getD_l hj]
    intro e
    exact hA (by rw [← e]; exact getD_mem hj)
  · rw [getD_r (Nat.le_refl _), Nat.sub_self]; rfl
  · rw [getD_r h1]
    rcases Nat.lt_or_ge A.length j with h | h
    · obtain ⟨i, hi⟩ : ∃ i, j - A.length = i + 1 := ⟨j - A.length - 1, by omega⟩
      rw [hi, List.getD_cons_succ, getD_l (by omega)]
      intro e
      exact hN (by rw [← e]; exact getD_mem (by omega))
    · rw [show j - A.length = 0 by omega]
      simp
  · rw [getD_r (by omega), show A.length + 1 + N.length - A.length = N.length + 1 by omega, List.getD_cons_succ, getD_r (Nat.le_refl _), Nat.sub_self]
    rfl
theorem nx_q {xs : List Int} {p q q' : Nat} (n : NxAt xs p q) (n' : NxAt xs p q') : q = q' := by
  rcases Nat.lt_trichotomy q q' with k | k | k
  · exact absurd n.is0 (n'.no0 q (by have := n.lt; omega) k)
  · exact k
  · exact absurd n'.is0 (n.no0 q' (by have := n'.lt; omega) k)
theorem nx_at {e : EnC} (h : GoodE e) (s : List Int) : NxAt (entL e ++ s) (octS e.m).length ((octS e.m).length + 1 + (strL e.nm).length) := by
  rw [entL_form]
  refine nx_list (fun hm => ?_) (fun hm => ?_) h.ok.1
  · have := (mod_oct h.md).1 32 hm
    omega
  · unfold strL at hm
    obtain ⟨b, hb, e0⟩ := List.mem_map.1 hm
    refine name_no0 h.nm b hb ?_
    have : b.toNat = 0 := by omega
    exact UInt8.toNat_inj.1 (by rw [this]; rfl)
theorem nx_not_no {e : EnC} (h : GoodE e) (s : List Int) : ¬ NxNo (entL e ++ s) := fun hn => hn _ _ (nx_at h s)
theorem nx_yes {e en : EnC} {s more : List Int} (h : GoodE e) (hy : NxYes (entL e ++ s) en more) : en = e ∧ more = s := by
  obtain ⟨p, q, ha, ho, hn, hi, hm⟩ := hy.out
  have hb := nx_at h s
  have hp : p = (octS e.m).length := nx_p hb.no32 hb.is32 ha
  subst hp
  have hq := nx_q ha hb
  subst hq
  have hoc := mod_oct h.md
  rw [entL_form] at ho hn hi hm
  obtain ⟨A, hA⟩ : ∃ A, octS e.m = A := ⟨_, rfl⟩
  obtain ⟨N, hN⟩ : ∃ N, strL e.nm = N := ⟨_, rfl⟩
  rw [hA] at ho hn hi hm hoc
  rw [hN] at ho hn hi hm
  have t1 : (A ++ 32 :: (N ++ 0 :: (e.ids ++ s))).take A.length = A := by simp
  have t2 : ((A ++ 32 :: (N ++ 0 :: (e.ids ++ s))).drop (A.length + 1)).take (A.length + 1 + N.length - (A.length + 1)) = N := by
    rw [← List.drop_drop, List.drop_left, List.drop_one, List.tail_cons, show A.length + 1 + N.length - (A.length + 1) = N.length by omega, List.take_left]
  have t3 : (A ++ 32 :: (N ++ 0 :: (e.ids ++ s))).drop (A.length + 1 + N.length + 1) = e.ids ++ s := by
    rw [show A.length + 1 + N.length + 1 = A.length + (1 + (N.length + 1)) by omega, ← List.drop_drop, List.drop_left, ← List.drop_drop, List.drop_one, List.tail_cons, ← List.drop_drop, List.drop_left, List.drop_one, List.tail_cons]
  have t4 : (A ++ 32 :: (N ++ 0 :: (e.ids ++ s))).drop (A.length + 1 + N.length + 33) = s := by
    rw [show A.length + 1 + N.length + 33 = (A.length + 1 + N.length + 1) + 32 by omega, ← List.drop_drop, t3, ← h.ok.1, List.drop_left]
  rw [t1] at ho
  rw [t2] at hn
  rw [t3] at hi
  rw [t4] at hm
  refine ⟨?_, hm⟩
  have i1 : en.ids = e.ids := by rw [hi, ← h.ok.1, List.take_left]
  have i2 : en.nm = e.nm := by rw [hn, ← hN, strOf_strL]
  have i3 : en.m = e.m := by rw [ho.eq hoc.1 hoc.2.1, hoc.2.2.2]
  cases en
  cases e
  simp_all

/-! The program's reader -/
theorem u8_back {l : List Int} (h : ∀ c ∈ l, 0 ≤ c ∧ c < 256) : (l.map (fun n => UInt8.ofNat n.toNat)).map (fun b => (b.toNat : Int)) = l := by
  have := strL_strOf h
  unfold strL at this
  rwa [strOfNums_data] at this
theorem rdT_ent {e : EnC} {s : List Int} {es : List EnC} (h : GoodE e) (hr : RdT ((entL e ++ s).map fun n => UInt8.ofNat n.toNat) es) : ∃ es', es = e :: es' ∧ RdT (s.map fun n => UInt8.ofNat n.toNat) es' := by
  have hoc := mod_oct h.md
  rw [entL_form] at hr
  simp only [List.map_append, List.map_cons] at hr
  obtain ⟨A, hA⟩ : ∃ A, (octS e.m).map (fun n => UInt8.ofNat n.toNat) = A := ⟨_, rfl⟩
  obtain ⟨N, hN⟩ : ∃ N, (strL e.nm).map (fun n => UInt8.ofNat n.toNat) = N := ⟨_, rfl⟩
  obtain ⟨I, hI⟩ : ∃ I, e.ids.map (fun n => UInt8.ofNat n.toNat) = I := ⟨_, rfl⟩
  obtain ⟨S, hS⟩ : ∃ S, s.map (fun n => UInt8.ofNat n.toNat) = S := ⟨_, rfl⟩
  rw [hA, hN, hI, hS] at hr
  rw [hS]
  have bA : A.map (fun b => (b.toNat : Int)) = octS e.m := by rw [← hA]; exact u8_back fun c hc => by have := hoc.1 c hc; omega
  have bI : I.map (fun b => (b.toNat : Int)) = e.ids := by rw [← hI]; exact u8_back fun c hc => h.ok.2.1 c hc
  have bN : N = e.nm.data.toList := by
    have := strOf_strL e.nm
    rw [← hN, ← strOfNums_data, this]
  have lA : A.length = (octS e.m).length := by rw [← hA, List.length_map]
  have lI : I.length = 32 := by rw [← hI, List.length_map]; exact h.ok.1
  have nA : (32 : UInt8) ∉ A := fun hm => by
    have : ((32 : UInt8).toNat : Int) ∈ A.map (fun b => (b.toNat : Int)) := List.mem_map.2 ⟨32, hm, rfl⟩
    rw [bA] at this
    have := hoc.1 _ this
    simp at this
  have nN : (0 : UInt8) ∉ N := fun hm => by rw [bN] at hm; exact name_no0 h.nm 0 hm rfl
  have c0 : UInt8.ofNat ((32 : Int)).toNat = 32 := rfl
  have c1 : UInt8.ofNat ((0 : Int)).toNat = 0 := rfl
  rw [c0, c1] at hr
  have k1 := ocut1 32 A (N ++ 0 :: (I ++ S)) nA
  have k2 := ocut1 0 N (I ++ S) nN
  generalize hL : A ++ 32 :: (N ++ 0 :: (I ++ S)) = L at hr k1
  cases hr with
  | nil => simp at hL
  | @cons _ en es' h0 hm hn hi hr =>
    rw [k1] at hm hn hi hr
    simp only at hm hn hi hr
    rw [k2] at hn hi hr
    simp only at hn hi hr
    have i3 : en.m = e.m := by
      have := hm (by rw [bA]; exact hoc.1) (by rw [lA]; have := hoc.2.1; omega) (fun e0 => by rw [e0] at lA; exact hoc.2.2.1 (List.eq_nil_of_length_eq_zero lA.symm))
      rw [this, bA, hoc.2.2.2]
    have i2 : en.nm = e.nm := by rw [hn, bN]
    have i1 : en.ids = e.ids := by
      rw [hi]
      unfold idOf
      rw [← lI, List.take_left, bI]
      have : I.length - (I ++ S).length = 0 := by rw [List.length_append]; omega
      rw [this]
      simp
    have i4 : (I ++ S).drop 32 = S := by rw [← lI, List.drop_left]
    rw [i4] at hr
    refine ⟨es', ?_, hr⟩
    cases en
    cases e
    simp_all
theorem rdT_all : ∀ {es0 es : List EnC}, (∀ e ∈ es0, GoodE e) → RdT ((treL es0).map fun n => UInt8.ofNat n.toNat) es → es = es0
  | [], es, _, hr => by
    cases hr with
    | nil => rfl
    | cons h0 => exact absurd rfl h0
  | e :: es0, es, hg, hr => by
    rw [treL_cons] at hr
    obtain ⟨es', rfl, hr'⟩ := rdT_ent (hg e List.mem_cons_self) hr
    rw [rdT_all (fun x hx => hg x (List.mem_cons_of_mem _ hx)) hr']
def DtEnd (xs : List Int) (R : List EnC) (E : Int) : Prop :=
  (1048576 < xs.length ∧ R = [] ∧ E = 2) ∨ (xs.length ≤ 1048576 ∧ ((TrT xs R ∧ E = 0) ∨ ((∀ es0, ¬ TrT xs es0) ∧ R = [] ∧ E = 4)))
theorem entL_bytes {e : EnC} (h : e.ok) : ∀ c ∈ entL e, 0 ≤ c ∧ c < 256 := by
  intro c hc
  unfold entL at hc
  rcases List.mem_append.1 hc with hc | hc
  · rcases List.mem_append.1 hc with hc | hc
    · rcases List.mem_append.1 hc with hc | hc
      · rcases List.mem_append.1 hc with hc | hc
        · exact octS_bytes h.2.2.1 h.2.2.2.1 c hc
        · simp at hc; omega
      · unfold strL at hc
        obtain ⟨b, -, rfl⟩ := List.mem_map.1 hc
        have := b.toNat_lt
        omega
    · simp at hc; omega
  · exact h.2.1 c hc
theorem treL_bytes {es : List EnC} (h : ∀ e ∈ es, e.ok) : ∀ c ∈ treL es, 0 ≤ c ∧ c < 256 := by
  intro c hc
  unfold treL at hc
  obtain ⟨e, he, hce⟩ := List.mem_flatMap.1 hc
  exact entL_bytes (h e he) c hce
theorem strOf_inj {a b : List Int} (ha : ∀ c ∈ a, 0 ≤ c ∧ c < 256) (hb : ∀ c ∈ b, 0 ≤ c ∧ c < 256) (h : strOfNums a = strOfNums b) : a = b := by
  rw [← strL_strOf ha, ← strL_strOf hb, h]
theorem pt_dp {xs : List Int} {R : List EnC} {E : Int} (hA : AllIn 0 256 xs) (h : PtEnd xs R E) : DtEnd xs R E := by
  rcases h with h | ⟨hl, es, hr, hok, h⟩
  · exact .inl h
  · right
    refine ⟨hl, ?_⟩
    rw [strOfNums_data] at hr
    have hA' : ∀ c ∈ xs, 0 ≤ c ∧ c < 256 := fun c hc => hA c hc
    rcases h with ⟨h1, h2, rfl, rfl⟩ | ⟨h1, rfl, rfl⟩
    · exact .inl ⟨⟨h1, strOf_inj (treL_bytes hok) hA' h2, hok⟩, rfl⟩
    · refine .inr ⟨fun es0 ht => h1 ?_, rfl, rfl⟩
      have hg := treE_good ht.e ht.ok
      rw [← ht.l] at hr
      have := rdT_all hg hr
      subst this
      exact ⟨ht.e, by rw [ht.l]⟩
theorem ent_inj {e f : EnC} {s t : List Int} (he : GoodE e) (hf : GoodE f) (h : entL e ++ s = entL f ++ t) : e = f ∧ s = t := by
  have hoc := mod_oct he.md
  have hr := octG_six _ hoc.1 hoc.2.1
  rw [hoc.2.2.2] at hr
  have hy : NxYes (entL e ++ s) e s := by
    have t1 : (octS e.m ++ 32 :: (strL e.nm ++ 0 :: (e.ids ++ s))).take (octS e.m).length = octS e.m := by simp
    refine ⟨⟨_, _, nx_at he s, ?_, ?_, ?_, ?_⟩⟩
    · rw [entL_form, t1]
      exact ⟨fun _ _ => hoc.2.2.2.symm, by omega, by omega⟩
    · rw [entL_form, ← List.drop_drop, List.drop_left, List.drop_one, List.tail_cons, show (octS e.m).length + 1 + (strL e.nm).length - ((octS e.m).length + 1) = (strL e.nm).length by omega, List.take_left, strOf_strL]
    · rw [entL_form, show (octS e.m).length + 1 + (strL e.nm).length + 1 = (octS e.m).length + (1 + ((strL e.nm).length + 1)) by omega, ← List.drop_drop, List.drop_left, ← List.drop_drop, List.drop_one, List.tail_cons, ← List.drop_drop, List.drop_left, List.drop_one, List.tail_cons, ← he.ok.1, List.take_left]
    · rw [entL_form, show (octS e.m).length + 1 + (strL e.nm).length + 33 = (octS e.m).length + (1 + ((strL e.nm).length + (1 + 32))) by omega, ← List.drop_drop, List.drop_left, ← List.drop_drop, List.drop_one, List.tail_cons, ← List.drop_drop, List.drop_left, ← List.drop_drop, List.drop_one, List.tail_cons, ← he.ok.1, List.drop_left]
  rw [h] at hy
  exact nx_yes hf hy
theorem treL_inj : ∀ {es fs : List EnC}, (∀ e ∈ es, GoodE e) → (∀ e ∈ fs, GoodE e) → treL es = treL fs → es = fs
  | [], [], _, _, _ => rfl
  | [], f :: fs, _, _, h => by rw [treL_cons] at h; exact absurd h.symm (entL_ne f _)
  | e :: es, [], _, _, h => by rw [treL_cons] at h; exact absurd h (entL_ne e _)
  | e :: es, f :: fs, he, hf, h => by
    rw [treL_cons, treL_cons] at h
    obtain ⟨rfl, h2⟩ := ent_inj (he e List.mem_cons_self) (hf f List.mem_cons_self) h
    rw [treL_inj (fun x hx => he x (List.mem_cons_of_mem _ hx)) (fun x hx => hf x (List.mem_cons_of_mem _ hx)) h2]
theorem dp_one {xs : List Int} {R R' : List EnC} {E E' : Int} (h : DtEnd xs R E) (h' : DtEnd xs R' E') : R = R' ∧ E = E' := by
  rcases h with ⟨h1, rfl, rfl⟩ | ⟨h1, h⟩
  · rcases h' with ⟨h1', rfl, rfl⟩ | ⟨h1', h'⟩
    · exact ⟨rfl, rfl⟩
    · omega
  · rcases h' with ⟨h1', rfl, rfl⟩ | ⟨h1', h'⟩
    · omega
    · rcases h with ⟨ht, rfl⟩ | ⟨hn, rfl, rfl⟩
      · rcases h' with ⟨ht', rfl⟩ | ⟨hn', rfl, rfl⟩
        · exact ⟨treL_inj (treE_good ht.e ht.ok) (treE_good ht'.e ht'.ok) (by rw [ht.l, ht'.l]), rfl⟩
        · exact absurd ht (hn' R)
      · rcases h' with ⟨ht', rfl⟩ | ⟨hn', rfl, rfl⟩
        · exact absurd ht' (hn R')
        · exact ⟨rfl, rfl⟩
end Go.Proofs.YtkbalngddlhlpaaGreatDoor
