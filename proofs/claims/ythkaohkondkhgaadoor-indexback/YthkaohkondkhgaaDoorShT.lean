/-
  Walks: Block.
-/
import Derived.Test.YthkaohkondkhgaaDoorShW2
import Derived.Test.YthkaohkondkhgaaDoorShW3
import Derived.Deep.CutRange
namespace Go.Proofs.YthkaohkondkhgaaDoor.Sh
open Go.RowKit

theorem St.agg_list (s : St) : s.agg = .agg (cellsU32 s.list).toArray := rfl
def addW (a b : Int) : Int := (a + b) % 4294967296
def St.add (s t : St) : St := ⟨addW s.a t.a, addW s.b t.b, addW s.c t.c, addW s.d t.d, addW s.e t.e, addW s.f t.f, addW s.g t.g, addW s.h t.h⟩

/-- The first k words of a list with those of another added. -/
def addK (rl sl : List Int) : Nat → List Int
  | 0 => rl
  | k + 1 => (addK rl sl k).set k ((rl.getD k 0 + sl.getD k 0) % 4294967296)
theorem addK_length (rl sl : List Int) (k : Nat) : (addK rl sl k).length = rl.length := by
  induction k with
  | zero => rfl
  | succ k ih => rw [addK, List.length_set, ih]
theorem addK_get (rl sl : List Int) (k j : Nat) (h : k ≤ j) : (addK rl sl k).getD j 0 = rl.getD j 0 := by
  induction k with
  | zero => rfl
  | succ k ih =>
    rw [addK, getD_set_ne _ _ _ _ (by omega)]
    exact ih (by omega)

/-- What the blocks of a call of Block hold. -/
def InB (n : Nat) (s : St) (bs ks : List Int) (w : World) : Prop := Blk w n 66 s.list ∧ Blk8 w (n + 1) 86 bs ∧ Tab w ks ∧ Blk w (n + 2) 66 [0, 0, 0, 0, 0, 0, 0, 0] ∧ 1 < n ∧ n + 3 ≤ w.heap.size
theorem InB.drew {n : Nat} {s : St} {bs ks : List Int} {w : World} (h : InB n s bs ks w) : InB n s bs ks w.drew := h
theorem InB.size {n : Nat} {s : St} {bs ks : List Int} {w : World} (h : InB n s bs ks w) : n + 3 ≤ w.heap.size := h.2.2.2.2.2
theorem InB.alloc {n : Nat} {s : St} {bs ks : List Int} {w : World} (h : InB n s bs ks w) (o : Obj) : InB n s bs ks (w.alloc o) :=
  ⟨h.1.alloc o, h.2.1.alloc o, h.2.2.1.alloc o, h.2.2.2.1.alloc o, by have := h.2.2.2.2; simp; omega⟩
theorem InB.far {n B : Nat} {s : St} {bs ks : List Int} {w w' : World} (h : InB n s bs ks w) (hb : Below B w w') (hB : w.heap.size ≤ B) (h0 : 1 < n) : InB n s bs ks w' := by
  obtain ⟨h1, h2, h3, h4, h5⟩ := h
  have hz := hb.size
  refine ⟨h1.far hb (by omega), ?_, h3.far hb (by omega), h4.far hb (by omega), by omega⟩
  unfold Blk8 at h2 ⊢
  rw [hb.block (n + 1) (by omega)]
  exact h2
theorem Blk8.range {w : World} {b : Nat} {t : TypeId} {xs : List Int} (h : Blk8 w b t xs) : w.rangeAt b 0 (cellsU8 xs) := by
  intro j v hv
  rw [Nat.zero_add, cell_of_row w b j _ t (0, 0) h]
  simpa using hv
theorem InB.open {n : Nat} {s : St} {bs ks : List Int} {w : World} (h : InB n s bs ks w) : w.rangeAt n 0 (cellsU32 s.list) ∧ w.rangeAt (n + 1) 0 (cellsU8 bs) := ⟨h.1.range, h.2.1.range⟩
theorem InB.cells {n : Nat} {s : St} {bs ks : List Int} {w : World} (h : InB n s bs ks w) :
    w.cell? ⟨n, 0, none⟩ = some (.int .u32 s.a) ∧ w.cell? ⟨n, 1, none⟩ = some (.int .u32 s.b) ∧ w.cell? ⟨n, 2, none⟩ = some (.int .u32 s.c) ∧ w.cell? ⟨n, 3, none⟩ = some (.int .u32 s.d) ∧
    w.cell? ⟨n, 4, none⟩ = some (.int .u32 s.e) ∧ w.cell? ⟨n, 5, none⟩ = some (.int .u32 s.f) ∧ w.cell? ⟨n, 6, none⟩ = some (.int .u32 s.g) ∧ w.cell? ⟨n, 7, none⟩ = some (.int .u32 s.h) ∧ w.rangeAt (n + 1) 0 (cellsU8 bs) ∧ InB n s bs ks w :=
  ⟨h.1.cell 0 (show 0 < 8 by omega), h.1.cell 1 (show 1 < 8 by omega), h.1.cell 2 (show 2 < 8 by omega), h.1.cell 3 (show 3 < 8 by omega), h.1.cell 4 (show 4 < 8 by omega), h.1.cell 5 (show 5 < 8 by omega), h.1.cell 6 (show 6 < 8 by omega), h.1.cell 7 (show 7 < 8 by omega), h.2.1.range, h⟩

theorem InB.set1 {n g i : Nat} {s : St} {bs ks : List Int} {w : World} (h : InB n s bs ks w) (hg : n + 3 ≤ g) (v : Value) : InB n s bs ks (w.setCell ⟨g, i, none⟩ v) :=
  ⟨h.1.other (by omega) v, h.2.1.other (by omega) v, h.2.2.1.other (by have := h.2.2.2.2; omega) v, h.2.2.2.1.other (by omega) v, by have := h.2.2.2.2; simpa [World.setCell] using this⟩

def zeros8 : List Int := [0, 0, 0, 0, 0, 0, 0, 0]
/-- Eight cells that may be written. -/
def Z8 (w : World) (g : Nat) : Prop := Blk w g 66 zeros8
theorem Z8.cells {w : World} {g : Nat} (h : Z8 w g) :
    Z8 w g ∧ w.cell? ⟨g, 0, none⟩ = some (.int .u32 0) ∧ w.cell? ⟨g, 1, none⟩ = some (.int .u32 0) ∧ w.cell? ⟨g, 2, none⟩ = some (.int .u32 0) ∧ w.cell? ⟨g, 3, none⟩ = some (.int .u32 0) ∧
    w.cell? ⟨g, 4, none⟩ = some (.int .u32 0) ∧ w.cell? ⟨g, 5, none⟩ = some (.int .u32 0) ∧ w.cell? ⟨g, 6, none⟩ = some (.int .u32 0) ∧ w.cell? ⟨g, 7, none⟩ = some (.int .u32 0) ∧ ∀ i, w.frozen? ⟨g, i, none⟩ = false :=
  ⟨h, h.cell 0 (by decide), h.cell 1 (by decide), h.cell 2 (by decide), h.cell 3 (by decide), h.cell 4 (by decide), h.cell 5 (by decide), h.cell 6 (by decide), h.cell 7 (by decide), h.frozen⟩
theorem Z8.new {w w' : World} (hb : Below (w.alloc (.cells #[.int .u32 0, .int .u32 0, .int .u32 0, .int .u32 0, .int .u32 0, .int .u32 0, .int .u32 0, .int .u32 0] 66)).heap.size (w.alloc (.cells #[.int .u32 0, .int .u32 0, .int .u32 0, .int .u32 0, .int .u32 0, .int .u32 0, .int .u32 0, .int .u32 0] 66)) w') : Z8 w' w.heap.size :=
  (alloc_blk w zeros8 66).far hb (by simp)
theorem Z8.newd {w w' : World} (hb : Below (w.alloc (.cells #[.int .u32 0, .int .u32 0, .int .u32 0, .int .u32 0, .int .u32 0, .int .u32 0, .int .u32 0, .int .u32 0] 66)).drew.heap.size (w.alloc (.cells #[.int .u32 0, .int .u32 0, .int .u32 0, .int .u32 0, .int .u32 0, .int .u32 0, .int .u32 0, .int .u32 0] 66)).drew w') : Z8 w' w.heap.size :=
  ((alloc_blk w zeros8 66).drew).far hb (by simp)
theorem Z8.far {w w' : World} {g B : Nat} (h : Z8 w g) (hb : Below B w w') (hB : w.heap.size ≤ B) : Z8 w' g := by
  refine Blk.far h hb (Nat.lt_of_lt_of_le ?_ hB)
  unfold Z8 Blk at h
  rcases Nat.lt_or_ge g w.heap.size with h' | h'
  · exact h'
  · rw [Array.getElem?_eq_none h'] at h
    cases h
/-- Eight words stored one by one. -/
def set8 (w : World) (g : Nat) (s : St) : World := ((((((((w.setCell ⟨g, 0, none⟩ (.int .u32 s.a)).setCell ⟨g, 1, none⟩ (.int .u32 s.b)).setCell ⟨g, 2, none⟩ (.int .u32 s.c)).setCell ⟨g, 3, none⟩ (.int .u32 s.d)).setCell ⟨g, 4, none⟩ (.int .u32 s.e)).setCell ⟨g, 5, none⟩ (.int .u32 s.f)).setCell ⟨g, 6, none⟩ (.int .u32 s.g)).setCell ⟨g, 7, none⟩ (.int .u32 s.h))
theorem Z8.set8 {w : World} {g : Nat} (h : Z8 w g) (s : St) : Blk (set8 w g s) g 66 s.list :=
  ((((((((Blk.set h 0 s.a).set 1 s.b).set 2 s.c).set 3 s.d).set 4 s.e).set 5 s.f).set 6 s.g).set 7 s.h)
theorem InB.set8 {n g : Nat} {s : St} {bs ks : List Int} {w : World} (h : InB n s bs ks w) (hg : n + 3 ≤ g) (r : St) : InB n s bs ks (set8 w g r) :=
  ((((((((h.set1 hg _).set1 hg _).set1 hg _).set1 hg _).set1 hg _).set1 hg _).set1 hg _).set1 hg _)
theorem below_set8 {n g : Nat} {a w : World} (h : Below n a w) (hg : n ≤ g) (r : St) : Below n a (set8 w g r) :=
  ((((((((h.setCell hg _).setCell hg _).setCell hg _).setCell hg _).setCell hg _).setCell hg _).setCell hg _).setCell hg _)

set_option maxHeartbeats 2000000 in
set_option maxRecDepth 100000 in
theorem block_any (s0 r : St) (bs sch ks : List Int) (w : World) (hb : bs.length = 64) (hA : AllB bs) (hks : ks.length = 64) (hB : Tab w ks) (hok : s0.ok) (HS : Kept (schF bs 64 = sch)) (HR : Kept (rdF s0 ks sch 64 = r)) :
    Calls Tryd.prog 65 #[s0.agg, .agg (cellsU8 bs).toArray] w fun e w' => e = .returned (r.add s0).agg ∧ Below w.heap.size w w' := by
  have hn : 1 < w.heap.size := hB.1
  have hsl : sch.length = 64 := by rw [← HS.out]; exact schF_length bs 64
  have HC26 : Kept (∀ W : World, Calls Tryd.prog 88 #[.agg (cellsU8 bs).toArray] W fun e w' => e = .returned (.agg (cellsU32 sch).toArray) ∧ Below W.heap.size W w') := ⟨fun W => spread_any bs sch W hb hA HS.out⟩
  have HC25 : Kept (∀ W : World, InB w.heap.size s0 bs ks W → Calls Tryd.prog 87 #[s0.agg, .agg (cellsU32 sch).toArray] W fun e w' => e = .returned r.agg ∧ Below W.heap.size W w') := ⟨fun W hW => rounds_any s0 r sch ks W hsl hks hW.2.2.1 hok HR.out⟩
  have hu := Tryd.underlying86
  have hi24 : (Tryd.prog.info? 86).map (·.size) = some (cellsU8 bs).length := by rw [cellsU8_length, hb]; rfl
  simp only [St.agg] at HC25 ⊢
  go_enter Tryd.func65, Tryd.ntmps65
  go_upto_region 1 with fail
  have hin : InB w.heap.size s0 bs ks (((w.alloc (.cells #[.int .u32 s0.a, .int .u32 s0.b, .int .u32 s0.c, .int .u32 s0.d, .int .u32 s0.e, .int .u32 s0.f, .int .u32 s0.g, .int .u32 s0.h] 66)).alloc (.cells (cellsU8 bs).toArray 86)).alloc (.cells #[.int .u32 0, .int .u32 0, .int .u32 0, .int .u32 0, .int .u32 0, .int .u32 0, .int .u32 0, .int .u32 0] 66)) := by
    obtain ⟨g1, g2, g3⟩ := heap3 w (.cells (cellsU32 s0.list).toArray 66) (.cells (cellsU8 bs).toArray 86) (.cells (cellsU32 [0, 0, 0, 0, 0, 0, 0, 0]).toArray 66)
    exact ⟨blk_of g1 rfl, blk8_of g2 rfl, ((hB.alloc _).alloc _).alloc _, blk_of g3 rfl, hn, by simp⟩
  have hbel : Below w.heap.size w (((w.alloc (.cells #[.int .u32 s0.a, .int .u32 s0.b, .int .u32 s0.c, .int .u32 s0.d, .int .u32 s0.e, .int .u32 s0.f, .int .u32 s0.g, .int .u32 s0.h] 66)).alloc (.cells (cellsU8 bs).toArray 86)).alloc (.cells #[.int .u32 0, .int .u32 0, .int .u32 0, .int .u32 0, .int .u32 0, .int .u32 0, .int .u32 0, .int .u32 0] 66)) := (((Below.refl _ _).alloc (Nat.le_refl _) _).alloc (by simp) _).alloc (by simp; omega) _
  generalize (((w.alloc (.cells #[.int .u32 s0.a, .int .u32 s0.b, .int .u32 s0.c, .int .u32 s0.d, .int .u32 s0.e, .int .u32 s0.f, .int .u32 s0.g, .int .u32 s0.h] 66)).alloc (.cells (cellsU8 bs).toArray 86)).alloc (.cells #[.int .u32 0, .int .u32 0, .int .u32 0, .int .u32 0, .int .u32 0, .int .u32 0, .int .u32 0, .int .u32 0] 66)) = W at *
  go_cut [5] from 7 to 10 (fun s5 wx => ∃ g, s5 = .pointer (some ⟨g, 0, none⟩) ∧ w.heap.size + 3 ≤ g ∧ Blk wx g 66 r.list ∧ InB w.heap.size s0 bs ks wx ∧ Below w.heap.size w wx)
  case first =>
    go_region_held3 (fun w' => w'.cell? ⟨w.heap.size, 0, none⟩ = some (.int .u32 s0.a) ∧ w'.cell? ⟨w.heap.size, 1, none⟩ = some (.int .u32 s0.b) ∧ w'.cell? ⟨w.heap.size, 2, none⟩ = some (.int .u32 s0.c) ∧ w'.cell? ⟨w.heap.size, 3, none⟩ = some (.int .u32 s0.d) ∧
      w'.cell? ⟨w.heap.size, 4, none⟩ = some (.int .u32 s0.e) ∧ w'.cell? ⟨w.heap.size, 5, none⟩ = some (.int .u32 s0.f) ∧ w'.cell? ⟨w.heap.size, 6, none⟩ = some (.int .u32 s0.g) ∧ w'.cell? ⟨w.heap.size, 7, none⟩ = some (.int .u32 s0.h) ∧ w'.rangeAt (w.heap.size + 1) 0 (cellsU8 bs) ∧ InB w.heap.size s0 bs ks w')
      ((go_split_ands; refine InB.cells ?_; first
        | (with_reducible apply InB.drew; first | with_reducible assumption | (with_reducible apply InB.alloc; exact hin))
        | (with_reducible apply InB.alloc; first | with_reducible assumption | exact InB.far (InB.far (InB.drew hin) hb1 (Nat.le_refl _) hn) hb2 (Nat.le_refl _) hn)
        | (with_reducible apply InB.far (hb := hb2); with_reducible assumption; exact Nat.le_refl _; exact hn)
        | (with_reducible apply InB.far (hb := hb1); with_reducible assumption; exact Nat.le_refl _; exact hn)
        | (with_reducible apply InB.set1; with_reducible apply InB.set1; with_reducible apply InB.set1; with_reducible apply InB.set1; with_reducible apply InB.set1; with_reducible apply InB.set1; with_reducible apply InB.set1; with_reducible apply InB.set1; with_reducible assumption; all_goals (first | exact hin.size | exact (InB.far hin.drew hb1 (Nat.le_refl _) hn).size))))
      (first
        | (go_at_call 88; refine Calls.mono (HC26.out _) (fun e wa hp => ?_); obtain ⟨rfl, hb1⟩ := hp; (try (have zz := (Z8.newd hb1).cells; obtain ⟨z8, z0, z1, z2, z3, z4, z5, z6, z7, zf⟩ := zz)))
        | (go_at_call 87; refine Calls.mono (HC25.out _ (by (go_split_ands; assumption))) (fun e wb hp => ?_); obtain ⟨rfl, hb2⟩ := hp; (try (have zz := (Z8.new hb2).cells; obtain ⟨z8', z0', z1', z2', z3', z4', z5', z6', z7', zf'⟩ := zz)); (try (have zz := (Z8.far z8 hb2 (Nat.le_refl _)).cells; obtain ⟨z8'', z0'', z1'', z2'', z3'', z4'', z5'', z6'', z7'', zf''⟩ := zz))))
    · go_wp2_with fail
      go_meet
      case rel => exact ⟨wb.heap.size, rfl, (InB.far (InB.far hin.drew hb1 (Nat.le_refl _) hn) hb2 (Nat.le_refl _) hn).size, alloc_blk wb r.list 66, InB.alloc (InB.far (InB.far hin.drew hb1 (Nat.le_refl _) hn) hb2 (Nat.le_refl _) hn) _, ((hbel.drew.trans (hb1.mono (by have := hin.size; show w.heap.size ≤ W.heap.size; omega))).trans (hb2.mono (by have := (InB.far hin.drew hb1 (Nat.le_refl _) hn).size; omega))).alloc (by have := (InB.far (InB.far hin.drew hb1 (Nat.le_refl _) hn) hb2 (Nat.le_refl _) hn).size; omega) _⟩
    · go_wp2_with fail
      go_meet
      case rel =>
        have i1 := InB.far hin.drew hb1 (Nat.le_refl _) hn
        have i2 := InB.far (InB.alloc i1 _) hb2 (Nat.le_refl _) hn
        have s1 := i1.size
        exact ⟨wa.heap.size, rfl, s1, Z8.set8 z8' r, InB.set8 i2 s1 r, below_set8 (((hbel.drew.trans (hb1.mono (by have := hin.size; show w.heap.size ≤ W.heap.size; omega))).alloc (by omega) _).trans (hb2.mono (by simp; omega))) (by omega) r⟩
    · go_wp2_with fail
      go_meet
      case rel =>
        have s0' := hin.size
        have i1 := InB.far (InB.alloc hin _).drew hb1 (Nat.le_refl _) hn
        have i2 := InB.far i1 hb2 (Nat.le_refl _) hn
        exact ⟨W.heap.size, rfl, s0', Z8.set8 z8'' r, InB.set8 i2 s0' r, below_set8 (((hbel.alloc (by omega) _).drew.trans (hb1.mono (by simp; omega))).trans (hb2.mono (by have := i1.size; omega))) (by omega) r⟩
  case rest =>
    obtain ⟨g, rfl, hg, bg, hin2, hbel2⟩ := hcut
    obtain ⟨bh, -, -, bz, -⟩ := hin2
    clear hin hbel HC25 HC26 HS HR hu hi24 hB
    have hlr : r.list.length = 8 := rfl
    have hls : s0.list.length = 8 := rfl
    have HE : Kept (addK r.list s0.list 8 = (r.add s0).list) := ⟨rfl⟩
    generalize hrl : r.list = rl at *
    generalize hsl0 : s0.list = sl at *
    go_wp2
    go_loopw [11] (fun i wr => ∃ (k : Nat), k ≤ 8 ∧ i = .int .i64 k ∧ Blk wr g 66 (addK rl sl k) ∧ Blk wr w.heap.size 66 sl ∧ Blk wr (w.heap.size + 2) 66 [0, 0, 0, 0, 0, 0, 0, 0] ∧ Below w.heap.size w wr) (fun i _ => 8 - (intOf i).toNat)
    case atStart => exact ⟨0, by omega, rfl, bg, bh, bz, hbel2⟩
    case round =>
      clear bg bh bz hbel2
      obtain ⟨k, hk, rfl, bg, bh, bz, hbel2⟩ := hrel
      by_cases hlt : k < 8
      · have cg := bg.cell k (by rw [addK_length]; omega)
        have fg := bg.frozen k
        have ch := bh.cell k (by omega)
        rw [addK_get _ _ _ _ (Nat.le_refl _)] at cg
        have HN : Kept (addK rl sl (k + 1) = (addK rl sl k).set k ((rl.getD k 0 + sl.getD k 0) % 4294967296)) := ⟨rfl⟩
        generalize rl.getD k 0 = x at *
        generalize sl.getD k 0 = y at *
        go_upto_region 5 with fail
        refine wp_region_last _ 8 (by kernel_rfl) (by kernel_rfl) rfl rfl ?_
        simp only [List.take_succ_cons, List.take_zero]
        repeat (go_big_quiet_step (fail))
        refine wpQuiet_nil ?_
        intro m
        go_wp2
        go_roundw
        case rel =>
          refine ⟨k + 1, by omega, by go_num, ?_, (bh.drewN m).other (by omega) _, (bz.drewN m).other (by omega) _, (below_drewN hbel2 m).setCell (by show w.heap.size ≤ g; omega) _⟩
          rw [HN.out]
          exact (bg.drewN m).set k _
        case measure => simp [intOf]; omega
      · obtain rfl : k = 8 := by omega
        rw [HE.out] at bg
        have HR1 : Kept (wr.rangeAt g 0 (cellsU32 (r.add s0).list)) := ⟨bg.range⟩
        have HT1 : Kept (wr.there (w.heap.size + 1 + 1) 0 8) := ⟨bz.there 8 rfl⟩
        have HF1 : Kept (Blk (wr.setCells (w.heap.size + 1 + 1) 0 (cellsU32 (r.add s0).list)) (w.heap.size + 1 + 1) 66 (r.add s0).list ∧ Below w.heap.size w (wr.setCells (w.heap.size + 1 + 1) 0 (cellsU32 (r.add s0).list))) := ⟨bz.over rfl, below_cells (b := w.heap.size + 1 + 1) (by omega) _ 0 w wr hbel2⟩
        have HI1 : Kept ((Tryd.prog.info? 66).map (·.size) = some (cellsU32 (r.add s0).list).length) := ⟨rfl⟩
        have HI2 : Kept ((Tryd.prog.info? 66).map (·.size) = some (cellsU32 (r.add s0).list).toArray.size) := ⟨rfl⟩
        have HO1 : Kept ((cellsU32 (r.add s0).list).toArray.all (·.oneCell') = true) := ⟨all_oneCell_toArray (cellsU32_one _)⟩
        clear bg bh bz hbel2 hlr hls HE
        go_wp2_with (first | (refine wpList_load_mid rfl 66 _ rfl g 0 rfl (cellsU32 (r.add s0).list) _ HR1.out Tryd.underlying66 rfl HI1.out ?_) | (refine wpList_store_mid rfl 66 _ _ rfl (w.heap.size + 1 + 1) 0 (cellsU32 (r.add s0).list).toArray rfl rfl HT1.out HI2.out HO1.out ?_))
        refine bodyPost_ret (v := .agg (cellsU32 (r.add s0).list).toArray) (results_cell_row (p := 4) (ty := 66) Tryd.results65 _ _ (w.heap.size + 1 + 1) 66 _ (0, 0) _ rfl HF1.out.1 Tryd.underlying66 rfl HI2.out) rfl ⟨rfl, HF1.out.2⟩
end Go.Proofs.YthkaohkondkhgaaDoor.Sh
