/-
  Rows sorted: the order of ids, rows that are owned, Clone, the closure, SortFunc.
-/
import Derived.Test.YtgoegmaepafopaaDoorP6
import Derived.Test.YtgoegmaepafopaaDoorShelf
import Derived.Shelf.SlSortCmp.NoneTotal
namespace Go.Proofs.YtgoegmaepafopaaDoor
open Go.RowKit Go.Sort Go.Shelf

theorem cmpZ_self : ∀ xs : List Int, Sh.cmpZ xs xs = 0
  | [] => rfl
  | x :: xs => by
    unfold Sh.cmpZ
    rw [if_neg (by omega), if_neg (by omega)]
    exact cmpZ_self xs
theorem cmpZ_flip : ∀ xs ys : List Int, Sh.cmpZ ys xs = -Sh.cmpZ xs ys
  | [], [] => rfl
  | [], _ :: _ => rfl
  | _ :: _, [] => rfl
  | x :: xs, y :: ys => by
    have ih := cmpZ_flip xs ys
    unfold Sh.cmpZ
    by_cases h1 : x < y
    · rw [if_pos h1, if_neg (by omega), if_pos h1]; rfl
    · by_cases h2 : y < x
      · rw [if_pos h2, if_neg h1, if_pos h2]
      · rw [if_neg h1, if_neg h2, if_neg h1, if_neg h2]
        exact ih
theorem cmpZ_zero : ∀ {xs ys : List Int}, Sh.cmpZ xs ys = 0 → xs = ys
  | [], [], _ => rfl
  | [], _ :: _, h => by simp [Sh.cmpZ] at h
  | _ :: _, [], h => by simp [Sh.cmpZ] at h
  | x :: xs, y :: ys, h => by
    unfold Sh.cmpZ at h
    by_cases h1 : x < y
    · rw [if_pos h1] at h; omega
    · by_cases h2 : y < x
      · rw [if_neg h1, if_pos h2] at h; omega
      · rw [if_neg h1, if_neg h2] at h
        rw [cmpZ_zero h, show x = y by omega]
theorem cmpZ_on : ∀ xs ys zs : List Int, Sh.cmpZ xs ys ≤ 0 → Sh.cmpZ ys zs ≤ 0 → Sh.cmpZ xs zs ≤ 0
  | [], _, [], _, _ => by simp [Sh.cmpZ]
  | [], _, _ :: _, _, _ => by simp [Sh.cmpZ]
  | _ :: _, [], _, h, _ => by simp [Sh.cmpZ] at h
  | _ :: _, _ :: _, [], _, h => by simp [Sh.cmpZ] at h
  | a :: x, b :: y, c :: z, h, g => by
    have ih := cmpZ_on x y z
    unfold Sh.cmpZ at h g ⊢
    grind
theorem cmpZ_lt_trans {xs ys zs : List Int} (h : Sh.cmpZ xs ys < 0) (g : Sh.cmpZ ys zs < 0) : Sh.cmpZ xs zs < 0 := by
  have h1 := cmpZ_on xs ys zs (by omega) (by omega)
  rcases Int.lt_or_eq_of_le h1 with h2 | h2
  · exact h2
  · have e := cmpZ_zero h2
    subst e
    rw [cmpZ_flip] at g
    omega

abbrev RowOk := {r : RowC // r.ok}
theorem row0_ok : (default : RowC).ok := ⟨List.length_replicate, fun x hx => by rw [List.eq_of_mem_replicate hx]; omega, by show (0 : Int) ≤ 0; omega, by show (0 : Int) < _; omega, by show (0 : Int) ≤ 0; omega, by show (0 : Int) < _; omega⟩
instance : Inhabited RowOk := ⟨⟨default, row0_ok⟩⟩
def encR (x : RowOk) : List Value := x.1.l
def cfR (x y : RowOk) : Int := Sh.cmpZ x.1.ids y.1.ids
theorem swoR : SWO (ltOf cfR) where
  irrefl x := by simp [ltOf, cfR, cmpZ_self]
  trans x y z h1 h2 := decide_eq_true (cmpZ_lt_trans (of_decide_eq_true h1) (of_decide_eq_true h2))
  ntrans x y z h1 h2 := by
    have g1 : ¬ Sh.cmpZ x.1.ids y.1.ids < 0 := of_decide_eq_false h1
    have g2 : ¬ Sh.cmpZ y.1.ids z.1.ids < 0 := of_decide_eq_false h2
    refine decide_eq_false ?_
    show ¬ Sh.cmpZ x.1.ids z.1.ids < 0
    have := cmpZ_on z.1.ids y.1.ids x.1.ids (by rw [cmpZ_flip]; omega) (by rw [cmpZ_flip]; omega)
    rw [cmpZ_flip] at this
    omega

/-- Rows in memory of the call's own. -/
def OwnR (e : TypeId) (w : World) (base : Nat) (v : Value) (rs : List RowC) : Prop := w.ownsRow base e 34 v rs.length (rs.flatMap RowC.l) ∧ ∀ r ∈ rs, r.ok
theorem flat_get : ∀ {rs : List RowC}, (∀ r ∈ rs, r.ok) → ∀ {i j : Nat}, i < rs.length → j < 34 → (rs.flatMap RowC.l)[i * 34 + j]? = (rowI rs i).l[j]?
  | [], _, _, _, hi, _ => by simp at hi
  | r :: rs, h, 0, j, _, hj => by
    rw [Nat.zero_mul, Nat.zero_add, List.flatMap_cons, List.getElem?_append_left (by rw [RowC.len (h r (by simp))]; exact hj)]
    rfl
  | r :: rs, h, i + 1, j, hi, hj => by
    have hl := RowC.len (h r (by simp))
    rw [List.flatMap_cons, List.getElem?_append_right (by rw [hl]; omega), hl, show (i + 1) * 34 + j - 34 = i * 34 + j by omega]
    rw [flat_get (fun r hr => h r (by simp [hr])) (by simpa using hi) hj]
    simp [rowI]
theorem flat_len : ∀ {rs : List RowC}, (∀ r ∈ rs, r.ok) → (rs.flatMap RowC.l).length = rs.length * 34
  | [], _ => rfl
  | r :: rs, h => by rw [List.flatMap_cons, List.length_append, RowC.len (h r (by simp)), flat_len (fun r hr => h r (by simp [hr])), List.length_cons]; omega
theorem OwnR.nil (e : TypeId) (w : World) (base : Nat) : OwnR e w base (.slice none 0 0) [] := ⟨World.ownsRow_nil w base e 34, fun _ h => by cases h⟩
section
variable {e : TypeId} {w w' : World} {base : Nat} {v : Value} {rs : List RowC}
theorem OwnR.lt (h : OwnR e w base v rs) : ∀ g, v.ownBlock = some g → base ≤ g ∧ g < w.heap.size := by
  intro g hg
  rcases h.1.2 with ⟨rfl, _⟩ | ⟨g', cap, cur, rfl, hbg, hh, _⟩
  · simp [Value.ownBlock] at hg
  · simp [Value.ownBlock] at hg
    subst hg
    refine ⟨hbg, ?_⟩
    rcases Nat.lt_or_ge g' w.heap.size with h' | h'
    · exact h'
    · rw [Array.getElem?_eq_none h'] at hh
      cases hh
theorem OwnR.far (h : OwnR e w base v rs) (hb : ∀ g, v.ownBlock = some g → w'.heap[g]? = w.heap[g]?) : OwnR e w' base v rs := by
  obtain ⟨⟨h1, h2⟩, h3⟩ := h
  refine ⟨⟨h1, ?_⟩, h3⟩
  rcases h2 with h2 | ⟨g, cap, cur, rfl, hg, hh, r⟩
  · exact Or.inl h2
  · exact Or.inr ⟨g, cap, cur, rfl, hg, by rw [hb g rfl]; exact hh, r⟩
theorem OwnR.later {B : Nat} (h : OwnR e w base v rs) (hb : Below B w w') (hB : w.heap.size ≤ B) : OwnR e w' base v rs :=
  h.far fun g hg => hb.block g (Nat.lt_of_lt_of_le (h.lt g hg).2 hB)
theorem OwnR.cell {g n c : Nat} (h : OwnR e w base (.slice (some ⟨g, 0, none⟩) n c) rs) {i j : Nat} (hi : i < rs.length) (hj : j < 34) : w.cell? ⟨g, i * 34 + j, none⟩ = (rowI rs i).l[j]? ∧ w.frozen? ⟨g, i * 34 + j, none⟩ = false := by
  have hg := flat_get h.2 hi hj
  have hl : j < (rowI rs i).l.length := by rw [RowC.len (rowI_ok h.2 hi)]; exact hj
  constructor
  · have := World.ownsRow.cells h.1 (g := g) rfl (i * 34 + j) ((rowI rs i).l[j]) (by rw [hg, List.getElem?_eq_getElem hl])
    rw [add_plain, Nat.zero_add] at this
    rw [this, List.getElem?_eq_getElem hl]
  · rcases h.1.2 with ⟨h1, _⟩ | ⟨g', cap, cur, h1, hbg, hh, _⟩
    · simp at h1
    · simp at h1
      obtain ⟨rfl, -, -⟩ := h1
      simp [World.frozen?, hh]
theorem OwnR.rdR (h : OwnR e w base v rs) : RdR w v rs := by
  have hlt := h.lt
  have h' := h
  rcases h.1.2 with ⟨rfl, hn⟩ | ⟨g, cap, cur, rfl, hbg, hg, hnc, hcm, hcs, htake⟩
  · have hx : rs = [] := List.eq_nil_of_length_eq_zero hn
    subst hx
    exact RdR.nil w
  · refine ⟨some ⟨g, 0, none⟩, cap, rfl, hnc, hcm, (fun h => by cases h), h.2, fun h0 => ⟨g, 0, rfl, (hlt g rfl).2, fun i hi j u hu => ?_⟩⟩
    have hj : j < 34 := by
      rcases Nat.lt_or_ge j 34 with h1 | h1
      · exact h1
      · rw [List.getElem?_eq_none (by rw [RowC.len (rowI_ok h.2 hi)]; exact h1)] at hu; cases hu
    rw [Nat.zero_add, (h'.cell hi hj).1]
    exact hu
end

theorem drewN_grow (w : World) (os : Array Obj) (n : Nat) : (grow w os).drewN n = grow (w.drewN n) os := rfl
set_option maxHeartbeats 1000000 in
set_option maxRecDepth 100000 in
theorem compare_exact (xs ys : List Int) (w : World) (hl : xs.length = 32) (hm : ys.length = 32) (hA : AllB xs) (hB : AllB ys) :
    Calls Tryd.prog 33 #[.agg (cellsK .u8 xs).toArray, .agg (cellsK .u8 ys).toArray] w fun e w' => e = .returned (.int .i64 (Sh.cmpZ xs ys)) ∧ ∃ q os', w' = grow (w.drewN q) os' := by
  rw [cells_ids, cells_ids]
  have B1 : Sh.Blk8 ((w.alloc (.cells (Sh.cellsU8 xs).toArray 24)).alloc (.cells (Sh.cellsU8 ys).toArray 24)) w.heap.size 24 xs := (Sh.alloc_blk8 w xs 24).alloc _
  have B2 : Sh.Blk8 ((w.alloc (.cells (Sh.cellsU8 xs).toArray 24)).alloc (.cells (Sh.cellsU8 ys).toArray 24)) (w.heap.size + 1) 24 ys := by
    have := Sh.alloc_blk8 (w.alloc (.cells (Sh.cellsU8 xs).toArray 24)) ys 24
    rwa [show (w.alloc (.cells (Sh.cellsU8 xs).toArray 24)).heap.size = w.heap.size + 1 from by simp] at this
  have HC : Kept (∀ m, Calls Tryd.prog 50 #[.slice (some ⟨w.heap.size, 0, none⟩) 32 32, .slice (some ⟨w.heap.size + 1, 0, none⟩) 32 32] (((w.alloc (.cells (Sh.cellsU8 xs).toArray 24)).alloc (.cells (Sh.cellsU8 ys).toArray 24)).drewN m) fun e w' => e = .returned (.int .i64 (Sh.cmpZ xs ys)) ∧ w' = ((w.alloc (.cells (Sh.cellsU8 xs).toArray 24)).alloc (.cells (Sh.cellsU8 ys).toArray 24)).drewN m) := ⟨fun m => by
    have := Sh.bcmp_any (((w.alloc (.cells (Sh.cellsU8 xs).toArray 24)).alloc (.cells (Sh.cellsU8 ys).toArray 24)).drewN m) w.heap.size 0 32 (w.heap.size + 1) 0 32 xs ys hA hB (B1.drewN m).off (B2.drewN m).off
    rwa [hl, hm] at this⟩
  clear B1 B2
  generalize Sh.cmpZ xs ys = z at *
  go_enter Tryd.func33, Tryd.ntmps33
  go_upto_region 1 with fail
  go_quiet ((go_at_call 50; exact Calls.quiet_of_same (HC.out _)))
  go_wp2
  go_ret
  exact ⟨rfl, _, _, by rw [alloc_eq_grow, alloc_eq_grow, grow_grow, drewN_grow]⟩

set_option maxHeartbeats 1000000 in
set_option maxRecDepth 100000 in
theorem closure_any (x y : RowOk) (w : World) : Calls Tryd.prog 36 #[.agg (encR x).toArray, .agg (encR y).toArray] w fun e w' => e = .returned (.int .i64 (cfR x y)) ∧ ∃ q os', w' = grow (w.drewN q) os' := by
  obtain ⟨r, hr⟩ := x
  obtain ⟨s, hs⟩ := y
  show Calls Tryd.prog 36 #[.agg r.l.toArray, .agg s.l.toArray] w fun e w' => e = .returned (.int .i64 (Sh.cmpZ r.ids s.ids)) ∧ ∃ q os', w' = grow (w.drewN q) os'
  obtain ⟨w1, hw1, hB1, hlt1, hh1, -, -, -, -⟩ := box_row w 39 hr
  obtain ⟨w2, hw2, hB2, hlt2, hh2, -, -, -, -⟩ := box_row w1 39 hs
  have hs1 : w1.heap.size = w.heap.size + 1 := by rw [← hw1]; simp
  have hR1 : Kept (w2.rangeAt w.heap.size 0 (cellsK .u8 r.ids)) := ⟨row_range32 fun j u hu => by
    rw [hB2.cell (p := ⟨w.heap.size, 0 + j, none⟩) hlt1, Nat.zero_add, cell_of_row w1 _ j _ _ (0, 0) hh1]
    simpa using hu⟩
  have hR2 : Kept (w2.rangeAt (w.heap.size + 1) 0 (cellsK .u8 s.ids)) := ⟨row_range32 fun j u hu => by
    rw [← hs1, Nat.zero_add, cell_of_row w2 _ j _ _ (0, 0) hh2]
    simpa using hu⟩
  have KC := Kept.mk (compare_exact r.ids s.ids w2 hr.1 hs.1 hr.2.1 hs.2.1)
  have KI1 : Kept ((Tryd.prog.info? 24).map (·.size) = some (cellsK .u8 r.ids).length) := ⟨by rw [cellsK_length, hr.1]; exact info_id⟩
  have KI2 : Kept ((Tryd.prog.info? 24).map (·.size) = some (cellsK .u8 s.ids).length) := ⟨by rw [cellsK_length, hs.1]; exact info_id⟩
  have KW : Kept (w2 = grow w #[.cells r.l.toArray 39, .cells s.l.toArray 39]) := ⟨by rw [← hw2, ← hw1, alloc_eq_grow, alloc_eq_grow, grow_grow]; rfl⟩
  have z1 := RowC.len hr
  have z2 := RowC.len hs
  clear hB1 hB2 hlt1 hlt2 hh1 hh2 hr hs
  generalize Sh.cmpZ r.ids s.ids = z at *
  generalize cellsK .u8 r.ids = LA at *
  generalize cellsK .u8 s.ids = LB at *
  generalize r.l = CA at *
  generalize s.l = CB at *
  go_enter Tryd.func36, Tryd.ntmps36
  go_upto_region 1 with fail
  go_wp2_with (first | (refine wpList_load_mid rfl 24 _ rfl w.heap.size 0 rfl LA _ hR1.out Tryd.underlying24 rfl KI1.out ?_) | (refine wpList_load_mid rfl 24 _ rfl (w.heap.size + 1) 0 rfl LB _ hR2.out Tryd.underlying24 rfl KI2.out ?_))
  refine Calls.mono KC.out (fun e w3 hp => ?_)
  obtain ⟨rfl, q, os', rfl⟩ := hp
  go_wp2
  go_ret
  exact ⟨rfl, q, _, by rw [KW.out, drewN_grow, grow_grow]⟩
end Go.Proofs.YtgoegmaepafopaaDoor
