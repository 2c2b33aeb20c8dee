/-
  Walks: makeCode.
-/
import Derived.Test.YtjijkcmbbccfmaaDoorR4
namespace Go.Proofs.YtjijkcmbbccfmaaDoor
open Go.RowKit

/-- A block of two cells. -/
def CB (w : World) (b : Nat) (x y : Value) (T : TypeId) : Prop := w.heap[b]? = some (.cells #[x, y] T)
section
variable {w : World} {b : Nat} {x y : Value} {T : TypeId}
theorem CB.lt (h : CB w b x y T) : b < w.heap.size := by
  rcases Nat.lt_or_ge b w.heap.size with h' | h'
  · exact h'
  · unfold CB at h
    rw [Array.getElem?_eq_none h'] at h
    cases h
theorem CB.c0 (h : CB w b x y T) : w.cell? ⟨b, 0, none⟩ = some x := by unfold CB at h; simp [World.cell?, h]
theorem CB.c1 (h : CB w b x y T) : w.cell? ⟨b, 1, none⟩ = some y := by unfold CB at h; simp [World.cell?, h]
theorem CB.fz (h : CB w b x y T) (i : Nat) : w.frozen? ⟨b, i, none⟩ = false := by unfold CB at h; simp [World.frozen?, h]
theorem CB.s0 (h : CB w b x y T) (n : Value) : CB (w.setCell ⟨b, 0, none⟩ n) b n y T := by
  unfold CB at h ⊢
  simp only [World.setCell, Array.getElem?_modify, h]
  simp
theorem CB.s1 (h : CB w b x y T) (n : Value) : CB (w.setCell ⟨b, 1, none⟩ n) b x n T := by
  unfold CB at h ⊢
  simp only [World.setCell, Array.getElem?_modify, h]
  simp
theorem CB.far {w' : World} (h : CB w b x y T) (hb : w'.heap[b]? = w.heap[b]?) : CB w' b x y T := by
  unfold CB at h ⊢
  rw [hb]
  exact h
end

/-- makeCode under way. -/
structure Mk (w wr : World) (cv sv : Value) (cs ss : List Int) : Prop where
  cb : CB wr (w.heap.size + 1) cv sv 69
  rb : CB wr w.heap.size (.slice none 0 0) (.slice none 0 0) 69
  oc : Own .i64 3 wr (w.heap.size + 2) cv cs
  os : Own .i64 3 wr (w.heap.size + 2) sv ss
  ne : ∀ g, cv.ownBlock = some g → sv.ownBlock ≠ some g
  bel : Below w.heap.size w wr
theorem Mk.appS {w wr w1 : World} {cv sv v' : Value} {cs ss ss' : List Int} {o : Obj} (h : Mk w wr cv sv cs ss) (hown : Own .i64 3 w1 (w.heap.size + 2) v' ss') (hg : (wr.alloc o).grownBy w1 sv.ownBlock) (hat : v'.ownBlock = sv.ownBlock ∨ v'.ownBlock = some (wr.alloc o).heap.size) :
    CB w1 (w.heap.size + 1) cv sv 69 ∧ Mk w (w1.setCell ⟨w.heap.size + 1, 1, none⟩ v') cv v' cs ss' := by
  have hlt := h.cb.lt
  have keep : ∀ k, k < wr.heap.size → sv.ownBlock ≠ some k → w1.heap[k]? = wr.heap[k]? := fun k hk hne => by
    rw [hg.block k (by simp; omega) (fun e => hne e.symm), Below.heap_alloc _ _ _ hk]
  have hsv : ∀ k, k < w.heap.size + 2 → sv.ownBlock ≠ some k := fun k hk e => by have := (h.os.lt k e).1; omega
  have hcb : CB w1 (w.heap.size + 1) cv sv 69 := h.cb.far (keep _ hlt (hsv _ (by omega)))
  refine ⟨hcb, hcb.s1 _, ?_, ?_, ?_, ?_, ?_⟩
  · refine (h.rb.far (keep _ (by omega) (hsv _ (by omega)))).far (Below.heap_setCell _ _ _ _ (by show w.heap.size ≠ w.heap.size + 1; omega))
  · refine h.oc.far fun g hgb => ?_
    have hgl := h.oc.lt g hgb
    rw [Below.heap_setCell _ _ _ _ (show g ≠ w.heap.size + 1 by omega), keep g hgl.2 (h.ne g hgb)]
  · exact hown.far fun g hgb => Below.heap_setCell _ _ _ _ (by have := (hown.lt g hgb).1; show g ≠ w.heap.size + 1; omega)
  · intro g hgb
    have hgl := h.oc.lt g hgb
    rcases hat with e | e
    · rw [e]; exact h.ne g hgb
    · rw [e]; intro e'; simp at e'; omega
  · refine ((h.bel.alloc h.bel.size o).grown hg (by simp; omega) (fun k e => ?_)).setCell (by show w.heap.size ≤ w.heap.size + 1; omega) _
    have := (h.os.lt k e).1
    omega
theorem Mk.appC {w wr w1 : World} {cv sv v' : Value} {cs ss cs' : List Int} {o : Obj} (h : Mk w wr cv sv cs ss) (hown : Own .i64 3 w1 (w.heap.size + 2) v' cs') (hg : (wr.alloc o).grownBy w1 cv.ownBlock) (hat : v'.ownBlock = cv.ownBlock ∨ v'.ownBlock = some (wr.alloc o).heap.size) :
    CB w1 (w.heap.size + 1) cv sv 69 ∧ Mk w (w1.setCell ⟨w.heap.size + 1, 0, none⟩ v') v' sv cs' ss := by
  have hlt := h.cb.lt
  have keep : ∀ k, k < wr.heap.size → cv.ownBlock ≠ some k → w1.heap[k]? = wr.heap[k]? := fun k hk hne => by
    rw [hg.block k (by simp; omega) (fun e => hne e.symm), Below.heap_alloc _ _ _ hk]
  have hcv : ∀ k, k < w.heap.size + 2 → cv.ownBlock ≠ some k := fun k hk e => by have := (h.oc.lt k e).1; omega
  have hcb : CB w1 (w.heap.size + 1) cv sv 69 := h.cb.far (keep _ hlt (hcv _ (by omega)))
  refine ⟨hcb, hcb.s0 _, ?_, ?_, ?_, ?_, ?_⟩
  · refine (h.rb.far (keep _ (by omega) (hcv _ (by omega)))).far (Below.heap_setCell _ _ _ _ (by show w.heap.size ≠ w.heap.size + 1; omega))
  · exact hown.far fun g hgb => Below.heap_setCell _ _ _ _ (by have := (hown.lt g hgb).1; show g ≠ w.heap.size + 1; omega)
  · refine h.os.far fun g hgb => ?_
    have hgl := h.os.lt g hgb
    rw [Below.heap_setCell _ _ _ _ (show g ≠ w.heap.size + 1 by omega), keep g hgl.2 (fun e => h.ne g e hgb)]
  · intro g hgb e2
    have hgl := h.os.lt g e2
    rcases hat with e | e
    · exact h.ne g (by rw [← e]; exact hgb) e2
    · rw [e] at hgb; simp at hgb; omega
  · refine ((h.bel.alloc h.bel.size o).grown hg (by simp; omega) (fun k e => ?_)).setCell (by show w.heap.size ≤ w.heap.size + 1; omega) _
    have := (h.oc.lt k e).1
    omega

theorem idxU_snoc (L : List Int) (k j : Nat) (h : j < L.length) : idxU (L.take (j + 1)) k = idxU (L.take j) k ++ if L.getD j 0 = k ∧ 0 < k then [(j : Int)] else [] := by
  have e : L.take (j + 1) = L.take j ++ [L.getD j 0] := by
    rw [List.take_succ_eq_append_getElem h]
    simp [List.getD, List.getElem?_eq_getElem h]
  unfold idxU
  by_cases hk : k = 0
  · subst hk
    simp
  · rw [if_neg hk, if_neg hk, e, idxF_snoc]
    have hl : (L.take j).length = j := by simp; omega
    rw [hl]
    by_cases hx : L.getD j 0 = k
    · rw [if_pos hx, if_pos ⟨hx, by omega⟩]
      simp
    · rw [if_neg hx, if_neg (fun h => hx h.1)]

theorem symsU_length (L : List Int) : ∀ k, (symsU L k).length ≤ L.length
  | 0 => by simp [symsU]
  | k + 1 => by rw [symsU_eq]; exact symsF_length k L
theorem idxU_length (L : List Int) (k : Nat) : (idxU L k).length ≤ L.length := by
  unfold idxU
  split
  · simp
  · exact idxF_length _ _ _

theorem Rd.cut {k : IntKind} {S : Nat → Prop} {w : World} {a : Option Addr} {n c : Nat} {xs : List Int} (h : Rd k S w (.slice a n c) xs) (j : Nat) (hj : j ≤ xs.length) : Rd k S w (.slice a j c) (xs.take j) := by
  obtain ⟨a0, c0, hv, h1, h2, h3, h4⟩ := h
  cases hv
  have hlen : (xs.take j).length = j := by simp; omega
  refine ⟨a, c, by rw [hlen], by omega, h2, h3, fun h0 => ?_⟩
  obtain ⟨b, off, ha, hlt, hs, hc⟩ := h4 (by omega)
  refine ⟨b, off, ha, hlt, hs, fun i hi => ?_⟩
  rw [hc i (by omega)]
  congr 2
  simp only [List.getD, List.getElem?_take]
  rw [if_pos (by omega)]
theorem mk_end {w wr : World} {L cs : List Int} {cv sv x y : Value} (hc : Rd .i64 (fun b => w.heap.size + 2 ≤ b) wr cv cs) (hs : Rd .i64 (fun b => w.heap.size + 2 ≤ b) wr sv (symsU L 16)) (hb : Below w.heap.size w wr) (ht : trimF cs = cs) (ht2 : trimF cs = trimF (cntsU L 16)) :
    ∃ cv' sv', Ending.returned (.agg #[cv, sv]) = .returned (.agg #[cv', sv']) ∧ Rd .i64 (fun b => w.heap.size ≤ b) ((wr.setCell ⟨w.heap.size, 0, none⟩ x).setCell ⟨w.heap.size, 1, none⟩ y) cv' (mkCd L).counts ∧ Rd .i64 (fun b => w.heap.size ≤ b) ((wr.setCell ⟨w.heap.size, 0, none⟩ x).setCell ⟨w.heap.size, 1, none⟩ y) sv' (mkCd L).symbols ∧ Below w.heap.size w ((wr.setCell ⟨w.heap.size, 0, none⟩ x).setCell ⟨w.heap.size, 1, none⟩ y) := by
  have hf : ∀ {k : IntKind} {v : Value} {xs : List Int}, Rd k (fun b => w.heap.size + 2 ≤ b) wr v xs → Rd k (fun b => w.heap.size ≤ b) ((wr.setCell ⟨w.heap.size, 0, none⟩ x).setCell ⟨w.heap.size, 1, none⟩ y) v xs := fun h =>
    h.far (by simp [World.setCell]) fun b' _ hS => ⟨by omega, by
      rw [Below.heap_setCell _ _ _ _ (show b' ≠ w.heap.size by omega), Below.heap_setCell _ _ _ _ (show b' ≠ w.heap.size by omega)]⟩
  refine ⟨cv, sv, rfl, ?_, ?_, (hb.setCell (Nat.le_refl _) _).setCell (Nat.le_refl _) _⟩
  · rw [mkCd_cu, ← ht2, ht]
    exact hf hc
  · rw [mkCd_sy]
    exact hf hs

def lenOf : Value → Nat
  | .slice _ n _ => n
  | _ => 0

set_option maxHeartbeats 4000000 in
set_option maxRecDepth 100000 in
theorem makeCode_any {S : Nat → Prop} (v : Value) (L : List Int) (w : World) (hv : Rd .i64 S w v L) (hlen : L.length ≤ 400) (hin : AllIn 0 16 L) :
    Calls Tryd.prog 67 #[v] w fun e w' => ∃ cv sv, e = .returned (.agg #[cv, sv]) ∧ Rd .i64 (fun b => w.heap.size ≤ b) w' cv (mkCd L).counts ∧ Rd .i64 (fun b => w.heap.size ≤ b) w' sv (mkCd L).symbols ∧ Below w.heap.size w w' := by
  obtain ⟨i0, z0, hi, hz, hs, hb, hc⟩ := info64
  obtain ⟨va, vc, rfl, -, hlc, hcm⟩ := hv.form
  have KV := Kept.mk hv
  have KI := Kept.mk hin
  clear hv hin hcm
  go_enter Tryd.func67, Tryd.ntmps67
  go_wp2
  go_loopw [8, 4, 5, 6, 7] (fun s8 _ _ _ _ wr => ∃ (k : Nat) (cv sv : Value), k ≤ 16 ∧ s8 = .int .i64 k ∧ Mk w wr cv sv (cntsU L k) (symsU L k)) (fun s8 _ _ _ _ _ => 16 - (intOf s8).toNat)
  case atStart =>
    refine ⟨0, .slice none 0 0, .slice none 0 0, by omega, rfl, ?_, ?_, Own.nil _ _ _ _, Own.nil _ _ _ _, (fun g e => by simp [Value.ownBlock] at e), ((Below.refl _ _).alloc (Nat.le_refl _) _).alloc (by simp) _⟩
    · have := heap_alloc_new (w.alloc (.cells #[.slice none 0 0, .slice none 0 0] 69)) (.cells #[.slice none 0 0, .slice none 0 0] 69)
      have e : (w.alloc (.cells #[.slice none 0 0, .slice none 0 0] 69)).heap.size = w.heap.size + 1 := by simp
      rw [e] at this
      exact this
    · unfold CB
      rw [Below.heap_alloc _ _ _ (by simp)]
      exact heap_alloc_new w _
  case round =>
    obtain ⟨k, cv, sv, hk, rfl, hM⟩ := hrel
    have KM := Kept.mk hM
    have hbw := hM.bel.size
    clear hM
    by_cases hlt : k < 16
    · have hk2 : (k : Int) < 16 := by omega
      go_wp2
      go_loopw [13, 5, 6, 7] (fun s13 s5 _ _ wq => ∃ (j : Nat) (sv' : Value) (SS : List Int), j ≤ L.length ∧ s13 = .int .i64 j ∧ s5 = .int .i64 ((idxU (L.take j) k).length : Int) ∧ SS = symsU L k ++ idxU (L.take j) k ∧ Mk w wq cv sv' (cntsU L k) SS) (fun s13 _ _ _ _ => L.length - (intOf s13).toNat)
      case atStart =>
        have e : idxU ([] : List Int) k = [] := by unfold idxU; split <;> rfl
        refine ⟨0, sv, _, by omega, rfl, ?_, rfl, ?_⟩
        · rw [List.take_zero, e]; rfl
        · rw [List.take_zero, e, List.append_nil]; exact KM.out
      case round =>
        clear KM hbw
        obtain ⟨j, sv', SS, hj, rfl, rfl, hSS, hM⟩ := hrel
        have KM2 := Kept.mk hM
        have hcb := hM.cb
        have c1 := hcb.c1
        have f1 := hcb.fz 1
        have c0 := hcb.c0
        have f0 := hcb.fz 0
        have hlt1 := hcb.lt
        have hle1 : SS.length ≤ 800 ∧ (idxU (L.take j) k).length ≤ 400 := by
          have h1 := symsU_length L k
          have h2 := idxU_length (L.take j) k
          have h3 : (L.take j).length ≤ L.length := by simp; omega
          rw [hSS, List.length_append]
          omega
        obtain ⟨hle2, hle3⟩ := hle1
        have KSS := Kept.mk hSS
        clear hM hcb hSS
        by_cases hlj : j < L.length
        · have hlj2 : (j : Int) < (L.length : Int) := by omega
          obtain ⟨b, off, c2, he, hbl, -, -, -, hcells⟩ := KV.out.open (by omega)
          simp only [Value.slice.injEq, true_and] at he
          obtain ⟨rfl, rfl⟩ := he
          have hcj : wr.cell? ⟨b, off + j, none⟩ = some (.int .i64 (L.getD j 0)) := by
            rw [KM2.out.bel.cell (p := ⟨b, off + j, none⟩) hbl]
            exact hcells j hlj
          have hby := KI.out.getD (by omega) j
          have HS : Kept (idxU (L.take (j + 1)) k = idxU (L.take j) k ++ if L.getD j 0 = k ∧ 0 < k then [(j : Int)] else []) := ⟨idxU_snoc L k j hlj⟩
          clear hcells
          generalize L.getD j 0 = x at *
          by_cases hx : x = (k : Int) ∧ 0 < k
          · obtain ⟨hxk, hk0⟩ := hx
            subst hxk
            have hk0i : (0 : Int) < (k : Int) := by omega
            obtain ⟨sa, sc, rfl, -, hslc, hscm⟩ := KM2.out.os.rd.form
            clear hslc hscm
            have hrd := Kept.mk (Rd.one .i64 wr j 3)
            have how := Kept.mk (KM2.out.os.alloc (.cells #[.int .i64 (j : Int)] 3))
            have HS2 := HS.out
            rw [if_pos ⟨rfl, hk0⟩] at HS2
            have KHS := Kept.mk HS2
            clear HS HS2
            generalize idxU (L.take j) k = ID at *
            go_wp2_with (at_builtin; refine wpList_append_rd _ rfl _ _ 49 rfl .i64 anyB 8 (w.heap.size + 2) 3 i0 z0 Tryd.underlying49 hi hz hs hb hc (by omega) (.slice sa SS.length sc) SS rfl how.out _ [(j : Int)] rfl hrd.out (by simp; omega) (by simp; omega) ?_; intro v' w1 hown hgrow hat; obtain ⟨hc1, hM1⟩ := KM2.out.appS hown hgrow hat; obtain ⟨na, nc, rfl, -, hl2, hcm2⟩ := hown.rd.form; have c11 := hc1.c1; have f11 := hc1.fz 1; have KM3 := Kept.mk hM1; clear hc1 hM1 hown hgrow hat hl2 hcm2)
            go_roundw
            case rel =>
              refine ⟨j + 1, .slice na (SS.length + 1) nc, SS ++ [(j : Int)], by omega, by go_num, ?_, ?_, ?_⟩
              · rw [KHS.out, List.length_append]; rfl
              · rw [KHS.out, KSS.out, List.append_assoc]
              · have := KM3.out
                simp only [List.length_append, List.length_singleton] at this
                exact this
            case measure => simp [intOf]; omega
          · have hxx : ¬ (x = (k : Int) ∧ (0 : Int) < (k : Int)) := fun h => hx ⟨h.1, by omega⟩
            have HS2 := HS.out
            rw [if_neg hx, List.append_nil] at HS2
            have KHS := Kept.mk HS2
            clear HS HS2 hx
            by_cases hxk : x = (k : Int)
            · have hk0i : ¬ (0 : Int) < (k : Int) := fun h => hxx ⟨hxk, h⟩
              have hk1 : k = 0 := by omega
              subst hxk
              clear hxx
              go_wp2
              go_roundw
              case rel => exact ⟨j + 1, sv', SS, by omega, by go_num, by rw [KHS.out], by rw [KHS.out]; exact KSS.out, KM2.out⟩
              case measure => simp [intOf]; omega
            · clear hxx
              go_wp2
              go_roundw
              case rel => exact ⟨j + 1, sv', SS, by omega, by go_num, by rw [KHS.out], by rw [KHS.out]; exact KSS.out, KM2.out⟩
              case measure => simp [intOf]; omega
        · obtain rfl : j = L.length := by omega
          rw [List.take_length] at KSS hle3
          rw [List.take_length]
          have hct := cntsU_length L k
          obtain ⟨ca, cc, rfl, -, hslc, hscm⟩ := KM2.out.oc.rd.form
          clear hslc hscm
          have hrd := Kept.mk (Rd.one .i64 wr (idxU L k).length 3)
          have how := Kept.mk (KM2.out.oc.alloc (.cells #[.int .i64 ((idxU L k).length : Int)] 3))
          have hcl : (cntsU L k).length ≤ 16 := by omega
          have KSU : Kept (SS = symsU L (k + 1)) := ⟨KSS.out⟩
          have KCU : Kept (cntsU L (k + 1) = cntsU L k ++ [((idxU L k).length : Int)]) := ⟨rfl⟩
          clear KSS hct
          generalize ((idxU L k).length : Int) = z at *
          generalize cntsU L k = CC at *
          go_wp2_with (at_builtin; refine wpList_append_rd _ rfl _ _ 49 rfl .i64 anyB 8 (w.heap.size + 2) 3 i0 z0 Tryd.underlying49 hi hz hs hb hc (by omega) (.slice ca CC.length cc) CC rfl how.out _ [z] rfl hrd.out (by simp; omega) (by simp; omega) ?_; intro v' w1 hown hgrow hat; obtain ⟨hc1, hM1⟩ := KM2.out.appC hown hgrow hat; obtain ⟨na, nc, rfl, -, hl2, hcm2⟩ := hown.rd.form; have c11 := hc1.c0; have f11 := hc1.fz 0; have KM3 := Kept.mk hM1; clear hc1 hM1 hown hgrow hat hl2 hcm2)
          go_roundw
          case rel =>
            refine ⟨k + 1, .slice na (CC.length + 1) nc, sv', by omega, by go_num, ?_⟩
            rw [KCU.out, ← KSU.out]
            have := KM3.out
            simp only [List.length_append, List.length_singleton] at this
            exact this
          case measure => simp [intOf]; omega
    · obtain rfl : k = 16 := by omega
      obtain ⟨sa, sc, rfl, -, -, -⟩ := KM.out.os.rd.form
      have hrc := KM.out.oc.rd
      have hrs := KM.out.os.rd
      have hC0 : ∃ cs, cs = cntsU L 16 := ⟨_, rfl⟩
      obtain ⟨cs0, hcs0⟩ := hC0
      have hlen0 : cs0.length = 16 := by rw [hcs0]; exact cntsU_length L 16
      rw [← hcs0] at hrc
      have KRC : Kept (Rd .i64 (fun b => w.heap.size + 2 ≤ b) wr cv cs0) := ⟨hrc.weak fun b _ e => (KM.out.oc.lt b e).1⟩
      have KRS : Kept (Rd .i64 (fun b => w.heap.size + 2 ≤ b) wr (.slice sa (symsU L 16).length sc) (symsU L 16)) := ⟨hrs.weak fun b _ e => (KM.out.os.lt b e).1⟩
      have KC0 := Kept.mk hcs0
      clear hrc hrs hcs0
      go_wp2
      go_loopw [41] (fun _ wq => ∃ (cv' : Value) (cs : List Int), CB wq (w.heap.size + 1) cv' (.slice sa (symsU L 16).length sc) 69 ∧ CB wq w.heap.size (.slice none 0 0) (.slice none 0 0) 69 ∧ Rd .i64 (fun b => w.heap.size + 2 ≤ b) wq cv' cs ∧ Rd .i64 (fun b => w.heap.size + 2 ≤ b) wq (.slice sa (symsU L 16).length sc) (symsU L 16) ∧ trimF cs = trimF cs0 ∧ 1 ≤ cs.length ∧ cs.length ≤ 16 ∧ Below w.heap.size w wq) (fun _ wq => lenOf ((wq.cell? ⟨w.heap.size + 1, 0, none⟩).getD undef))
      case atStart => exact ⟨cv, cs0, KM.out.cb, KM.out.rb, KRC.out, KRS.out, rfl, by omega, by omega, KM.out.bel⟩
      case round =>
        obtain ⟨cv', cs, hcb, hrb, hrc, hrs, htr, hl1, hl2, hbel⟩ := hrel
        obtain ⟨b, off, c, rfl, hbl, hcc, hcm, hbS, hcells⟩ := hrc.open (by omega)
        have c0 := hcb.c0
        have f0 := hcb.fz 0
        have hltb := hcb.lt
        have c1 := hcb.c1
        have hcl := hcells (cs.length - 1) (by omega)
        have KCB := Kept.mk hcb
        have KRB := Kept.mk hrb
        have KRC := Kept.mk hrc
        have KRS2 := Kept.mk hrs
        have KTR := Kept.mk htr
        have KBE := Kept.mk hbel
        have hidx : (cs.length : Int) - 1 = ((cs.length - 1 : Nat) : Int) := by omega
        clear hcb hrb hrc hrs htr hbel hcells hlen0 KRS
        by_cases h1 : 1 < cs.length
        · have h1i : (1 : Int) < (cs.length : Int) := by omega
          have hlti : ((cs.length - 1 : Nat) : Int) < (cs.length : Int) := by omega
          obtain ⟨y, hy⟩ : ∃ y, cs.getD (cs.length - 1) 0 = y := ⟨_, rfl⟩
          rw [hy] at hcl
          have KY := Kept.mk hy
          clear hy
          by_cases hz0 : y = 0
          · subst hz0
            go_wp2
            go_roundw
            case rel =>
              refine ⟨.slice (some ⟨b, off, none⟩) (cs.length - 1) c, cs.take (cs.length - 1), KCB.out.s0 _, KRB.out.far (Below.heap_setCell _ _ _ _ (by show w.heap.size ≠ w.heap.size + 1; omega)), ?_, ?_, ?_, by simp; omega, by simp; omega, KBE.out.setCell (by show w.heap.size ≤ w.heap.size + 1; omega) _⟩
              · have hp := KRC.out.cut (cs.length - 1) (by omega)
                exact hp.far (by simp [World.setCell]) fun b' _ hS => ⟨hS, Below.heap_setCell _ _ _ _ (by show b' ≠ w.heap.size + 1; omega)⟩
              · exact KRS2.out.far (by simp [World.setCell]) fun b' _ hS => ⟨hS, Below.heap_setCell _ _ _ _ (by show b' ≠ w.heap.size + 1; omega)⟩
              · rw [← KTR.out]
                exact (trimF_step cs h1 KY.out).symm
            case measure =>
              rw [(KCB.out.s0 _).c0, c0]
              simp [lenOf]
              omega
          · have r0 := KRB.out.c0
            have r1 := KRB.out.c1
            have g0 := KRB.out.fz 0
            have g1 := KRB.out.fz 1
            go_wp2
            refine bodyPost_ret (v := .agg #[.slice (some ⟨b, off, none⟩) cs.length c, .slice sa (symsU L 16).length sc]) (by simp [results, Tryd.results67, go_sem, (KRB.out.s0 (.slice (some ⟨b, off, none⟩) cs.length c)).c0, ((KRB.out.s0 (.slice (some ⟨b, off, none⟩) cs.length c)).s1 (.slice sa (symsU L 16).length sc)).c1]) rfl (mk_end KRC.out KRS2.out KBE.out (trimF_stop cs ?_) (KTR.out.trans (by rw [KC0.out])))
            exact Or.inr (by rw [KY.out]; exact hz0)
        · have h1i : ¬ (1 : Int) < (cs.length : Int) := by omega
          have r0 := KRB.out.c0
          have r1 := KRB.out.c1
          have g0 := KRB.out.fz 0
          have g1 := KRB.out.fz 1
          go_wp2
          refine bodyPost_ret (v := .agg #[.slice (some ⟨b, off, none⟩) cs.length c, .slice sa (symsU L 16).length sc]) (by simp [results, Tryd.results67, go_sem, (KRB.out.s0 (.slice (some ⟨b, off, none⟩) cs.length c)).c0, ((KRB.out.s0 (.slice (some ⟨b, off, none⟩) cs.length c)).s1 (.slice sa (symsU L 16).length sc)).c1]) rfl (mk_end KRC.out KRS2.out KBE.out (trimF_stop cs ?_) (KTR.out.trans (by rw [KC0.out])))
          exact Or.inl (by omega)

open Go.RowKit

theorem ret_bool {a b : Bool} (h : a = b) : Ending.returned (.bool a) = .returned (.bool b) := by rw [h]
theorem alloc_keeps {k : IntKind} {S : Nat → Prop} {w : World} {v : Value} {xs : List Int} (h : Rd k S w v xs) (o : Obj) : Rd k S (w.alloc o) v xs := h.later ((Below.refl _ w).alloc (Nat.le_refl _) o) (Nat.le_refl _)

set_option maxHeartbeats 1000000 in
set_option maxRecDepth 100000 in
theorem none_any {S : Nat → Prop} (cv sv : Value) (c : Cd) (w : World) (hs : Rd .i64 S w sv c.symbols) :
    Calls Tryd.prog 73 #[.agg #[cv, sv]] w fun e w' => e = .returned (.bool (decide (c.symbols.length = 0))) ∧ Below w.heap.size w w' := by
  obtain ⟨va, vc, rfl, -, hlc, hcm⟩ := hs.form
  go_enter Tryd.func73, Tryd.ntmps73
  go_wp2
  go_ret
  refine ⟨ret_bool ?_, (Below.refl _ _).alloc (Nat.le_refl _) _⟩
  rw [Bool.eq_iff_iff, beq_iff_eq, decide_eq_true_iff]
  omega

theorem pow2_le {a b : Nat} (h : a ≤ b) : (2 : Int) ^ a ≤ 2 ^ b := by
  have : (2 : Nat) ^ a ≤ 2 ^ b := Nat.pow_le_pow_right (by omega) h
  have e : ∀ n : Nat, ((2 : Int) ^ n) = ((2 ^ n : Nat) : Int) := by intro n; simp
  rw [e, e]
  exact Int.ofNat_le.2 this
theorem sumF_bound : ∀ (l : List Int) (k : Nat), AllIn 0 1000 l → 0 ≤ sumF l k ∧ sumF l k ≤ 32768000 * l.length
  | [], _, _ => by simp [sumF]
  | x :: l, k, h => by
    have ih := sumF_bound l (k + 1) (fun y hy => h y (by simp [hy]))
    have hx := h x (by simp)
    have hp : (2 : Int) ^ (15 - k) ≤ 32768 := pow2_le (b := 15) (by omega)
    have hp0 : (0 : Int) < 2 ^ (15 - k) := Int.pow_pos (by omega)
    have h1 : x * 2 ^ (15 - k) ≤ 1000 * 32768 := Int.mul_le_mul (by omega) hp (by omega) (by omega)
    have h0 : 0 ≤ x * 2 ^ (15 - k) := Int.mul_nonneg hx.1 (by omega)
    rw [sumF, List.length_cons]
    omega

set_option maxHeartbeats 1000000 in
set_option maxRecDepth 100000 in
theorem right_any {S : Nat → Prop} {n : Int} (cv sv : Value) (c : Cd) (w : World) (hok : CdOk c n) (hc : Rd .i64 S w cv c.counts) (hs : Rd .i64 S w sv c.symbols) :
    Calls Tryd.prog 72 #[.agg #[cv, sv]] w fun e w' => e = .returned (.bool (rightF c)) ∧ Below w.heap.size w w' := by
  obtain ⟨va, vc, rfl, -, hlc, hcm⟩ := hs.form
  have hl0 := hok.len0
  have hl1 := hok.len1
  obtain ⟨b, off, cc, rfl, hbl, hcc, -, -, hcells⟩ := hc.open (by omega)
  have KC : Kept (∀ i, i < c.counts.length → w.cell? ⟨b, off + i, none⟩ = some (.int .i64 (c.counts.getD i 0))) := ⟨hcells⟩
  have KO := Kept.mk hok
  clear hc hs hcells hok hcm
  by_cases h1 : c.symbols.length = 1
  · have h1i : (c.symbols.length : Int) = 1 := by omega
    have KL := Kept.mk h1
    clear h1
    go_enter Tryd.func72, Tryd.ntmps72
    go_wp2
    go_ret
    refine ⟨ret_bool ?_, (Below.refl _ _).alloc (Nat.le_refl _) _⟩
    unfold rightF
    rw [if_pos KL.out, Bool.eq_iff_iff, beq_iff_eq, decide_eq_true_iff]
    omega
  · have h1i : ¬ (c.symbols.length : Int) = 1 := by omega
    go_enter Tryd.func72, Tryd.ntmps72
    go_wp2
    go_loop [3, 17, 4, 5] (fun s3 s17 _ _ => ∃ (k : Nat) (z : Int), k ≤ c.counts.length ∧ s17 = .int .i64 k ∧ s3 = .int .i64 z ∧ z + sumF (c.counts.drop k) k = sumF c.counts 0 ∧ 0 ≤ z) (fun _ s17 _ _ => c.counts.length - (intOf s17).toNat)
    case atStart => exact ⟨0, 0, by omega, rfl, rfl, by simp, by omega⟩
    case round =>
      obtain ⟨k, z, hk, rfl, rfl, hz, hz0⟩ := hrel
      by_cases hlt : k < c.counts.length
      · have hlti : (k : Int) < (c.counts.length : Int) := by omega
        have ck := KC.out k hlt
        have hd : c.counts.drop k = c.counts.getD k 0 :: c.counts.drop (k + 1) := by
          rw [List.drop_eq_getElem_cons hlt]
          simp [List.getD, List.getElem?_eq_getElem hlt]
        rw [hd, sumF] at hz
        have hby := KO.out.pos.getD (by omega) k
        have hb1 := sumF_bound (c.counts.drop (k + 1)) (k + 1) (KO.out.pos.drop _)
        have hb2 := sumF_bound c.counts 0 KO.out.pos
        generalize c.counts.getD k 0 = x at *
        have hblt : ¬ b = w.heap.size := by omega
        have hblt2 : ¬ w.heap.size = b := by omega
        have hsh : (15 : Int) - (k : Int) = ((15 - k : Nat) : Int) := by omega
        have hp0 : (0 : Int) < 2 ^ (15 - k) := Int.pow_pos (by omega)
        have hx0 : 0 ≤ x * 2 ^ (15 - k) := Int.mul_nonneg hby.1 (by omega)
        have KZ := Kept.mk hz
        have hm : x * 2 ^ (15 - k) ≤ 600000000 := by omega
        have hzz : z ≤ 600000000 := by omega
        clear hz hd
        go_wp2
        go_round
        case rel => exact ⟨k + 1, z + x * 2 ^ (15 - k), by omega, by go_num, rfl, by rw [← KZ.out]; omega, by omega⟩
        case measure => simp [intOf]; omega
      · have hd : c.counts.drop k = [] := List.eq_nil_of_length_eq_zero (by simp; omega)
        rw [hd, sumF, Int.add_zero] at hz
        have KZ := Kept.mk hz
        clear hz hd
        go_wp2
        go_ret
        refine ⟨ret_bool ?_, (Below.refl _ _).alloc (Nat.le_refl _) _⟩
        unfold rightF
        rw [if_neg h1, ← KZ.out, Bool.eq_iff_iff, beq_iff_eq, decide_eq_true_iff]
end Go.Proofs.YtjijkcmbbccfmaaDoor
