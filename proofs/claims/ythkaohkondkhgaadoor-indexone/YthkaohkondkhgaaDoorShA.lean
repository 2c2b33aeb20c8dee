/-
  Walks: Block.
-/
import Derived.Test.YthkaohkondkhgaaDoorShW3
import Derived.Deep.CutRange
import Derived.Test.YthkaohkondkhgaaDoorShB2
import Derived.Laws.CopyRow
import Derived.Laws.CopyOwn
import Derived.Test.YthkaohkondkhgaaDoorShP2
import Derived.Lib.SlBytesConst
namespace Go.Proofs.YthkaohkondkhgaaDoor.Sh
open Go.RowKit

theorem St.agg_list (s : St) : s.agg = .agg (cellsU32 s.list).toArray := rfl
def addW (a b : Int) : Int := (a + b) % 4294967296
def St.add (s t : St) : St := ⟨addW s.a t.a, addW s.b t.b, addW s.c t.c, addW s.d t.d, addW s.e t.e, addW s.f t.f, addW s.g t.g, addW s.h t.h⟩

/-- The first k words of a list with those of another added. -/
def addK (rl sl : List Int) : Nat → List Int
  | 0 => rl
  | k + 1 => (addK rl sl k).set k ((rl.getD k 0 + sl.getD k 0) % 4294967296)
theorem addK_length (rl sl : List Int) (k : Nat) : (addK rl sl k).length = rl.length := by
  induction k with
  | zero => rfl
  | succ k ih => rw [addK, List.length_set, ih]
theorem addK_get (rl sl : List Int) (k j : Nat) (h : k ≤ j) : (addK rl sl k).getD j 0 = rl.getD j 0 := by
  induction k with
  | zero => rfl
  | succ k ih =>
    rw [addK, getD_set_ne _ _ _ _ (by omega)]
    exact ih (by omega)

/-- What the blocks of a call of Block hold. -/
def InB (n : Nat) (s : St) (bs ks : List Int) (w : World) : Prop := Blk w n 66 s.list ∧ Blk8 w (n + 1) 86 bs ∧ Tab w ks ∧ Blk w (n + 2) 66 [0, 0, 0, 0, 0, 0, 0, 0] ∧ 1 < n ∧ n + 3 ≤ w.heap.size
theorem InB.drew {n : Nat} {s : St} {bs ks : List Int} {w : World} (h : InB n s bs ks w) : InB n s bs ks w.drew := h
theorem InB.size {n : Nat} {s : St} {bs ks : List Int} {w : World} (h : InB n s bs ks w) : n + 3 ≤ w.heap.size := h.2.2.2.2.2
theorem InB.alloc {n : Nat} {s : St} {bs ks : List Int} {w : World} (h : InB n s bs ks w) (o : Obj) : InB n s bs ks (w.alloc o) :=
  ⟨h.1.alloc o, h.2.1.alloc o, h.2.2.1.alloc o, h.2.2.2.1.alloc o, by have := h.2.2.2.2; simp; omega⟩
theorem InB.far {n B : Nat} {s : St} {bs ks : List Int} {w w' : World} (h : InB n s bs ks w) (hb : Below B w w') (hB : w.heap.size ≤ B) (h0 : 1 < n) : InB n s bs ks w' := by
  obtain ⟨h1, h2, h3, h4, h5⟩ := h
  have hz := hb.size
  refine ⟨h1.far hb (by omega), ?_, h3.far hb (by omega), h4.far hb (by omega), by omega⟩
  unfold Blk8 at h2 ⊢
  rw [hb.block (n + 1) (by omega)]
  exact h2
theorem Blk8.range {w : World} {b : Nat} {t : TypeId} {xs : List Int} (h : Blk8 w b t xs) : w.rangeAt b 0 (cellsU8 xs) := by
  intro j v hv
  rw [Nat.zero_add, cell_of_row w b j _ t (0, 0) h]
  simpa using hv
theorem InB.open {n : Nat} {s : St} {bs ks : List Int} {w : World} (h : InB n s bs ks w) : w.rangeAt n 0 (cellsU32 s.list) ∧ w.rangeAt (n + 1) 0 (cellsU8 bs) := ⟨h.1.range, h.2.1.range⟩
theorem InB.cells {n : Nat} {s : St} {bs ks : List Int} {w : World} (h : InB n s bs ks w) :
    w.cell? ⟨n, 0, none⟩ = some (.int .u32 s.a) ∧ w.cell? ⟨n, 1, none⟩ = some (.int .u32 s.b) ∧ w.cell? ⟨n, 2, none⟩ = some (.int .u32 s.c) ∧ w.cell? ⟨n, 3, none⟩ = some (.int .u32 s.d) ∧
    w.cell? ⟨n, 4, none⟩ = some (.int .u32 s.e) ∧ w.cell? ⟨n, 5, none⟩ = some (.int .u32 s.f) ∧ w.cell? ⟨n, 6, none⟩ = some (.int .u32 s.g) ∧ w.cell? ⟨n, 7, none⟩ = some (.int .u32 s.h) ∧ w.rangeAt (n + 1) 0 (cellsU8 bs) ∧ InB n s bs ks w :=
  ⟨h.1.cell 0 (show 0 < 8 by omega), h.1.cell 1 (show 1 < 8 by omega), h.1.cell 2 (show 2 < 8 by omega), h.1.cell 3 (show 3 < 8 by omega), h.1.cell 4 (show 4 < 8 by omega), h.1.cell 5 (show 5 < 8 by omega), h.1.cell 6 (show 6 < 8 by omega), h.1.cell 7 (show 7 < 8 by omega), h.2.1.range, h⟩

theorem InB.set1 {n g i : Nat} {s : St} {bs ks : List Int} {w : World} (h : InB n s bs ks w) (hg : n + 3 ≤ g) (v : Value) : InB n s bs ks (w.setCell ⟨g, i, none⟩ v) :=
  ⟨h.1.other (by omega) v, h.2.1.other (by omega) v, h.2.2.1.other (by have := h.2.2.2.2; omega) v, h.2.2.2.1.other (by omega) v, by have := h.2.2.2.2; simpa [World.setCell] using this⟩

def zeros8 : List Int := [0, 0, 0, 0, 0, 0, 0, 0]
/-- Eight cells that may be written. -/
def Z8 (w : World) (g : Nat) : Prop := Blk w g 66 zeros8
theorem Z8.cells {w : World} {g : Nat} (h : Z8 w g) :
    Z8 w g ∧ w.cell? ⟨g, 0, none⟩ = some (.int .u32 0) ∧ w.cell? ⟨g, 1, none⟩ = some (.int .u32 0) ∧ w.cell? ⟨g, 2, none⟩ = some (.int .u32 0) ∧ w.cell? ⟨g, 3, none⟩ = some (.int .u32 0) ∧
    w.cell? ⟨g, 4, none⟩ = some (.int .u32 0) ∧ w.cell? ⟨g, 5, none⟩ = some (.int .u32 0) ∧ w.cell? ⟨g, 6, none⟩ = some (.int .u32 0) ∧ w.cell? ⟨g, 7, none⟩ = some (.int .u32 0) ∧ ∀ i, w.frozen? ⟨g, i, none⟩ = false :=
  ⟨h, h.cell 0 (by decide), h.cell 1 (by decide), h.cell 2 (by decide), h.cell 3 (by decide), h.cell 4 (by decide), h.cell 5 (by decide), h.cell 6 (by decide), h.cell 7 (by decide), h.frozen⟩
theorem Z8.new {w w' : World} (hb : Below (w.alloc (.cells #[.int .u32 0, .int .u32 0, .int .u32 0, .int .u32 0, .int .u32 0, .int .u32 0, .int .u32 0, .int .u32 0] 66)).heap.size (w.alloc (.cells #[.int .u32 0, .int .u32 0, .int .u32 0, .int .u32 0, .int .u32 0, .int .u32 0, .int .u32 0, .int .u32 0] 66)) w') : Z8 w' w.heap.size :=
  (alloc_blk w zeros8 66).far hb (by simp)
theorem Z8.newd {w w' : World} (hb : Below (w.alloc (.cells #[.int .u32 0, .int .u32 0, .int .u32 0, .int .u32 0, .int .u32 0, .int .u32 0, .int .u32 0, .int .u32 0] 66)).drew.heap.size (w.alloc (.cells #[.int .u32 0, .int .u32 0, .int .u32 0, .int .u32 0, .int .u32 0, .int .u32 0, .int .u32 0, .int .u32 0] 66)).drew w') : Z8 w' w.heap.size :=
  ((alloc_blk w zeros8 66).drew).far hb (by simp)
theorem Z8.far {w w' : World} {g B : Nat} (h : Z8 w g) (hb : Below B w w') (hB : w.heap.size ≤ B) : Z8 w' g := by
  refine Blk.far h hb (Nat.lt_of_lt_of_le ?_ hB)
  unfold Z8 Blk at h
  rcases Nat.lt_or_ge g w.heap.size with h' | h'
  · exact h'
  · rw [Array.getElem?_eq_none h'] at h
    cases h
/-- Eight words stored one by one. -/
def set8 (w : World) (g : Nat) (s : St) : World := ((((((((w.setCell ⟨g, 0, none⟩ (.int .u32 s.a)).setCell ⟨g, 1, none⟩ (.int .u32 s.b)).setCell ⟨g, 2, none⟩ (.int .u32 s.c)).setCell ⟨g, 3, none⟩ (.int .u32 s.d)).setCell ⟨g, 4, none⟩ (.int .u32 s.e)).setCell ⟨g, 5, none⟩ (.int .u32 s.f)).setCell ⟨g, 6, none⟩ (.int .u32 s.g)).setCell ⟨g, 7, none⟩ (.int .u32 s.h))
theorem Z8.set8 {w : World} {g : Nat} (h : Z8 w g) (s : St) : Blk (set8 w g s) g 66 s.list :=
  ((((((((Blk.set h 0 s.a).set 1 s.b).set 2 s.c).set 3 s.d).set 4 s.e).set 5 s.f).set 6 s.g).set 7 s.h)
theorem InB.set8 {n g : Nat} {s : St} {bs ks : List Int} {w : World} (h : InB n s bs ks w) (hg : n + 3 ≤ g) (r : St) : InB n s bs ks (set8 w g r) :=
  ((((((((h.set1 hg _).set1 hg _).set1 hg _).set1 hg _).set1 hg _).set1 hg _).set1 hg _).set1 hg _)
theorem below_set8 {n g : Nat} {a w : World} (h : Below n a w) (hg : n ≤ g) (r : St) : Below n a (set8 w g r) :=
  ((((((((h.setCell hg _).setCell hg _).setCell hg _).setCell hg _).setCell hg _).setCell hg _).setCell hg _).setCell hg _)

set_option maxHeartbeats 2000000 in
set_option maxRecDepth 100000 in
theorem block_any (s0 r : St) (bs sch ks : List Int) (w : World) (hb : bs.length = 64) (hA : AllB bs) (hks : ks.length = 64) (hB : Tab w ks) (hok : s0.ok) (HS : Kept (schF bs 64 = sch)) (HR : Kept (rdF s0 ks sch 64 = r)) :
    Calls Tryd.prog 65 #[s0.agg, .agg (cellsU8 bs).toArray] w fun e w' => e = .returned (r.add s0).agg ∧ Below w.heap.size w w' := by
  have hn : 1 < w.heap.size := hB.1
  have hsl : sch.length = 64 := by rw [← HS.out]; exact schF_length bs 64
  have HC26 : Kept (∀ W : World, Calls Tryd.prog 88 #[.agg (cellsU8 bs).toArray] W fun e w' => e = .returned (.agg (cellsU32 sch).toArray) ∧ Below W.heap.size W w') := ⟨fun W => spread_any bs sch W hb hA HS.out⟩
  have HC25 : Kept (∀ W : World, InB w.heap.size s0 bs ks W → Calls Tryd.prog 87 #[s0.agg, .agg (cellsU32 sch).toArray] W fun e w' => e = .returned r.agg ∧ Below W.heap.size W w') := ⟨fun W hW => rounds_any s0 r sch ks W hsl hks hW.2.2.1 hok HR.out⟩
  have hu := Tryd.underlying86
  have hi24 : (Tryd.prog.info? 86).map (·.size) = some (cellsU8 bs).length := by rw [cellsU8_length, hb]; rfl
  simp only [St.agg] at HC25 ⊢
  go_enter Tryd.func65, Tryd.ntmps65
  go_upto_region 1 with fail
  have hin : InB w.heap.size s0 bs ks (((w.alloc (.cells #[.int .u32 s0.a, .int .u32 s0.b, .int .u32 s0.c, .int .u32 s0.d, .int .u32 s0.e, .int .u32 s0.f, .int .u32 s0.g, .int .u32 s0.h] 66)).alloc (.cells (cellsU8 bs).toArray 86)).alloc (.cells #[.int .u32 0, .int .u32 0, .int .u32 0, .int .u32 0, .int .u32 0, .int .u32 0, .int .u32 0, .int .u32 0] 66)) := by
    obtain ⟨g1, g2, g3⟩ := heap3 w (.cells (cellsU32 s0.list).toArray 66) (.cells (cellsU8 bs).toArray 86) (.cells (cellsU32 [0, 0, 0, 0, 0, 0, 0, 0]).toArray 66)
    exact ⟨blk_of g1 rfl, blk8_of g2 rfl, ((hB.alloc _).alloc _).alloc _, blk_of g3 rfl, hn, by simp⟩
  have hbel : Below w.heap.size w (((w.alloc (.cells #[.int .u32 s0.a, .int .u32 s0.b, .int .u32 s0.c, .int .u32 s0.d, .int .u32 s0.e, .int .u32 s0.f, .int .u32 s0.g, .int .u32 s0.h] 66)).alloc (.cells (cellsU8 bs).toArray 86)).alloc (.cells #[.int .u32 0, .int .u32 0, .int .u32 0, .int .u32 0, .int .u32 0, .int .u32 0, .int .u32 0, .int .u32 0] 66)) := (((Below.refl _ _).alloc (Nat.le_refl _) _).alloc (by simp) _).alloc (by simp; omega) _
  generalize (((w.alloc (.cells #[.int .u32 s0.a, .int .u32 s0.b, .int .u32 s0.c, .int .u32 s0.d, .int .u32 s0.e, .int .u32 s0.f, .int .u32 s0.g, .int .u32 s0.h] 66)).alloc (.cells (cellsU8 bs).toArray 86)).alloc (.cells #[.int .u32 0, .int .u32 0, .int .u32 0, .int .u32 0, .int .u32 0, .int .u32 0, .int .u32 0, .int .u32 0] 66)) = W at *
  go_cut [5] from 7 to 10 (fun s5 wx => ∃ g, s5 = .pointer (some ⟨g, 0, none⟩) ∧ w.heap.size + 3 ≤ g ∧ Blk wx g 66 r.list ∧ InB w.heap.size s0 bs ks wx ∧ Below w.heap.size w wx)
  case first =>
    go_region_held3 (fun w' => w'.cell? ⟨w.heap.size, 0, none⟩ = some (.int .u32 s0.a) ∧ w'.cell? ⟨w.heap.size, 1, none⟩ = some (.int .u32 s0.b) ∧ w'.cell? ⟨w.heap.size, 2, none⟩ = some (.int .u32 s0.c) ∧ w'.cell? ⟨w.heap.size, 3, none⟩ = some (.int .u32 s0.d) ∧
      w'.cell? ⟨w.heap.size, 4, none⟩ = some (.int .u32 s0.e) ∧ w'.cell? ⟨w.heap.size, 5, none⟩ = some (.int .u32 s0.f) ∧ w'.cell? ⟨w.heap.size, 6, none⟩ = some (.int .u32 s0.g) ∧ w'.cell? ⟨w.heap.size, 7, none⟩ = some (.int .u32 s0.h) ∧ w'.rangeAt (w.heap.size + 1) 0 (cellsU8 bs) ∧ InB w.heap.size s0 bs ks w')
      ((go_split_ands; refine InB.cells ?_; first
        | (with_reducible apply InB.drew; first | with_reducible assumption | (with_reducible apply InB.alloc; exact hin))
        | (with_reducible apply InB.alloc; first | with_reducible assumption | exact InB.far (InB.far (InB.drew hin) hb1 (Nat.le_refl _) hn) hb2 (Nat.le_refl _) hn)
        | (with_reducible apply InB.far (hb := hb2); with_reducible assumption; exact Nat.le_refl _; exact hn)
        | (with_reducible apply InB.far (hb := hb1); with_reducible assumption; exact Nat.le_refl _; exact hn)
        | (with_reducible apply InB.set1; with_reducible apply InB.set1; with_reducible apply InB.set1; with_reducible apply InB.set1; with_reducible apply InB.set1; with_reducible apply InB.set1; with_reducible apply InB.set1; with_reducible apply InB.set1; with_reducible assumption; all_goals (first | exact hin.size | exact (InB.far hin.drew hb1 (Nat.le_refl _) hn).size))))
      (first
        | (go_at_call 88; refine Calls.mono (HC26.out _) (fun e wa hp => ?_); obtain ⟨rfl, hb1⟩ := hp; (try (have zz := (Z8.newd hb1).cells; obtain ⟨z8, z0, z1, z2, z3, z4, z5, z6, z7, zf⟩ := zz)))
        | (go_at_call 87; refine Calls.mono (HC25.out _ (by (go_split_ands; assumption))) (fun e wb hp => ?_); obtain ⟨rfl, hb2⟩ := hp; (try (have zz := (Z8.new hb2).cells; obtain ⟨z8', z0', z1', z2', z3', z4', z5', z6', z7', zf'⟩ := zz)); (try (have zz := (Z8.far z8 hb2 (Nat.le_refl _)).cells; obtain ⟨z8'', z0'', z1'', z2'', z3'', z4'', z5'', z6'', z7'', zf''⟩ := zz))))
    · go_wp2_with fail
      go_meet
      case rel => exact ⟨wb.heap.size, rfl, (InB.far (InB.far hin.drew hb1 (Nat.le_refl _) hn) hb2 (Nat.le_refl _) hn).size, alloc_blk wb r.list 66, InB.alloc (InB.far (InB.far hin.drew hb1 (Nat.le_refl _) hn) hb2 (Nat.le_refl _) hn) _, ((hbel.drew.trans (hb1.mono (by have := hin.size; show w.heap.size ≤ W.heap.size; omega))).trans (hb2.mono (by have := (InB.far hin.drew hb1 (Nat.le_refl _) hn).size; omega))).alloc (by have := (InB.far (InB.far hin.drew hb1 (Nat.le_refl _) hn) hb2 (Nat.le_refl _) hn).size; omega) _⟩
    · go_wp2_with fail
      go_meet
      case rel =>
        have i1 := InB.far hin.drew hb1 (Nat.le_refl _) hn
        have i2 := InB.far (InB.alloc i1 _) hb2 (Nat.le_refl _) hn
        have s1 := i1.size
        exact ⟨wa.heap.size, rfl, s1, Z8.set8 z8' r, InB.set8 i2 s1 r, below_set8 (((hbel.drew.trans (hb1.mono (by have := hin.size; show w.heap.size ≤ W.heap.size; omega))).alloc (by omega) _).trans (hb2.mono (by simp; omega))) (by omega) r⟩
    · go_wp2_with fail
      go_meet
      case rel =>
        have s0' := hin.size
        have i1 := InB.far (InB.alloc hin _).drew hb1 (Nat.le_refl _) hn
        have i2 := InB.far i1 hb2 (Nat.le_refl _) hn
        exact ⟨W.heap.size, rfl, s0', Z8.set8 z8'' r, InB.set8 i2 s0' r, below_set8 (((hbel.alloc (by omega) _).drew.trans (hb1.mono (by simp; omega))).trans (hb2.mono (by have := i1.size; omega))) (by omega) r⟩
  case rest =>
    obtain ⟨g, rfl, hg, bg, hin2, hbel2⟩ := hcut
    obtain ⟨bh, -, -, bz, -⟩ := hin2
    clear hin hbel HC25 HC26 HS HR hu hi24 hB
    have hlr : r.list.length = 8 := rfl
    have hls : s0.list.length = 8 := rfl
    have HE : Kept (addK r.list s0.list 8 = (r.add s0).list) := ⟨rfl⟩
    generalize hrl : r.list = rl at *
    generalize hsl0 : s0.list = sl at *
    go_wp2
    go_loopw [11] (fun i wr => ∃ (k : Nat), k ≤ 8 ∧ i = .int .i64 k ∧ Blk wr g 66 (addK rl sl k) ∧ Blk wr w.heap.size 66 sl ∧ Blk wr (w.heap.size + 2) 66 [0, 0, 0, 0, 0, 0, 0, 0] ∧ Below w.heap.size w wr) (fun i _ => 8 - (intOf i).toNat)
    case atStart => exact ⟨0, by omega, rfl, bg, bh, bz, hbel2⟩
    case round =>
      clear bg bh bz hbel2
      obtain ⟨k, hk, rfl, bg, bh, bz, hbel2⟩ := hrel
      by_cases hlt : k < 8
      · have cg := bg.cell k (by rw [addK_length]; omega)
        have fg := bg.frozen k
        have ch := bh.cell k (by omega)
        rw [addK_get _ _ _ _ (Nat.le_refl _)] at cg
        have HN : Kept (addK rl sl (k + 1) = (addK rl sl k).set k ((rl.getD k 0 + sl.getD k 0) % 4294967296)) := ⟨rfl⟩
        generalize rl.getD k 0 = x at *
        generalize sl.getD k 0 = y at *
        go_upto_region 5 with fail
        refine wp_region_last _ 8 (by kernel_rfl) (by kernel_rfl) rfl rfl ?_
        simp only [List.take_succ_cons, List.take_zero]
        repeat (go_big_quiet_step (fail))
        refine wpQuiet_nil ?_
        intro m
        go_wp2
        go_roundw
        case rel =>
          refine ⟨k + 1, by omega, by go_num, ?_, (bh.drewN m).other (by omega) _, (bz.drewN m).other (by omega) _, (below_drewN hbel2 m).setCell (by show w.heap.size ≤ g; omega) _⟩
          rw [HN.out]
          exact (bg.drewN m).set k _
        case measure => simp [intOf]; omega
      · obtain rfl : k = 8 := by omega
        rw [HE.out] at bg
        have HR1 : Kept (wr.rangeAt g 0 (cellsU32 (r.add s0).list)) := ⟨bg.range⟩
        have HT1 : Kept (wr.there (w.heap.size + 1 + 1) 0 8) := ⟨bz.there 8 rfl⟩
        have HF1 : Kept (Blk (wr.setCells (w.heap.size + 1 + 1) 0 (cellsU32 (r.add s0).list)) (w.heap.size + 1 + 1) 66 (r.add s0).list ∧ Below w.heap.size w (wr.setCells (w.heap.size + 1 + 1) 0 (cellsU32 (r.add s0).list))) := ⟨bz.over rfl, below_cells (b := w.heap.size + 1 + 1) (by omega) _ 0 w wr hbel2⟩
        have HI1 : Kept ((Tryd.prog.info? 66).map (·.size) = some (cellsU32 (r.add s0).list).length) := ⟨rfl⟩
        have HI2 : Kept ((Tryd.prog.info? 66).map (·.size) = some (cellsU32 (r.add s0).list).toArray.size) := ⟨rfl⟩
        have HO1 : Kept ((cellsU32 (r.add s0).list).toArray.all (·.oneCell') = true) := ⟨all_oneCell_toArray (cellsU32_one _)⟩
        clear bg bh bz hbel2 hlr hls HE
        go_wp2_with (first | (refine wpList_load_mid rfl 66 _ rfl g 0 rfl (cellsU32 (r.add s0).list) _ HR1.out Tryd.underlying66 rfl HI1.out ?_) | (refine wpList_store_mid rfl 66 _ _ rfl (w.heap.size + 1 + 1) 0 (cellsU32 (r.add s0).list).toArray rfl rfl HT1.out HI2.out HO1.out ?_))
        refine bodyPost_ret (v := .agg (cellsU32 (r.add s0).list).toArray) (results_cell_row (p := 4) (ty := 66) Tryd.results65 _ _ (w.heap.size + 1 + 1) 66 _ (0, 0) _ rfl HF1.out.1 Tryd.underlying66 rfl HI2.out) rfl ⟨rfl, HF1.out.2⟩


def St.first : St := ⟨1779033703, 3144134277, 1013904242, 2773480762, 1359893119, 2600822924, 528734635, 1541459225⟩
theorem St.first_ok : St.first.ok := by unfold St.ok St.first; decide

set_option maxHeartbeats 400000 in
set_option maxRecDepth 100000 in
theorem first_any (w : World) : Calls Tryd.prog 44 #[] w fun e w' => e = .returned St.first.agg ∧ Below w.heap.size w w' := by
  go_enter Tryd.func44, Tryd.ntmps44
  go_wp2
  refine bodyPost_ret (v := St.first.agg) (results_cell_row (p := 0) (ty := 66) Tryd.results44 _ _ w.heap.size 66 _ (0, 0) _ rfl (heap_alloc_new w _) Tryd.underlying66 rfl rfl) rfl ⟨rfl, (Below.refl _ _).alloc (Nat.le_refl _) _⟩

/-- A block of bytes into eight words. -/
def blockF (ks : List Int) (s : St) (bs : List Int) : St := (rdF s ks (schF bs 64) 64).add s
/-- The first k blocks of bytes into eight words. -/
def thruF (ks xs : List Int) (s : St) : Nat → St
  | 0 => s
  | k + 1 => blockF ks (thruF ks xs s k) ((xs.drop (64 * k)).take 64)
theorem St.add_ok (r s : St) : (r.add s).ok := by
  unfold St.add St.ok addW
  simp only
  omega
theorem thruF_ok {ks xs : List Int} {s : St} (h : s.ok) (k : Nat) : (thruF ks xs s k).ok := by
  cases k with
  | zero => exact h
  | succ k => exact St.add_ok _ _

theorem Rd.open2 {w : World} {v : Value} {xs : List Int} (h : Rd w v xs) (h0 : 0 < xs.length) : ∃ b off c, v = .slice (some ⟨b, off, none⟩) xs.length c ∧ xs.length ≤ c ∧ c ≤ maxLen ∧ b < w.heap.size ∧ ∀ i, i < xs.length → w.cell? ⟨b, off + i, none⟩ = some (.int .u8 (xs.getD i 0)) := by
  obtain ⟨a, c, hv, h1, h2, h3, h4, h5⟩ := h
  obtain ⟨b, off, rfl, hlt, hc⟩ := h5 h0
  exact ⟨b, off, c, hv, h1, h2, hlt, hc⟩
theorem getD_part (xs : List Int) (o j : Nat) (hj : j < 64) : ((xs.drop o).take 64).getD j 0 = xs.getD (o + j) 0 := by
  simp [List.getD, hj]

theorem heap_setCells_far (b k : Nat) (h : k ≠ b) : ∀ (vs : List Value) (o : Nat) (w : World), (w.setCells b o vs).heap[k]? = w.heap[k]?
  | [], _, _ => rfl
  | v :: vs, o, w => by
    rw [World.setCells, heap_setCells_far b k h vs (o + 1) _]
    exact Below.heap_setCell _ _ _ _ h
theorem size_setCells (b : Nat) : ∀ (vs : List Value) (o : Nat) (w : World), (w.setCells b o vs).heap.size = w.heap.size
  | [], _, _ => rfl
  | v :: vs, o, w => by
    rw [World.setCells, size_setCells b vs (o + 1) _]
    simp [World.setCell]
theorem Blk.cells_far {w : World} {b b' o : Nat} {t : TypeId} {xs : List Int} (h : Blk w b t xs) (hne : b ≠ b') (vs : List Value) : Blk (w.setCells b' o vs) b t xs := by
  unfold Blk at h ⊢
  rw [heap_setCells_far _ _ hne]
  exact h
theorem Blk8.cells_far {w : World} {b b' o : Nat} {t : TypeId} {xs : List Int} (h : Blk8 w b t xs) (hne : b ≠ b') (vs : List Value) : Blk8 (w.setCells b' o vs) b t xs := by
  unfold Blk8 at h ⊢
  rw [heap_setCells_far _ _ hne]
  exact h
theorem Blk8.far {w w' : World} {b B : Nat} {t : TypeId} {xs : List Int} (h : Blk8 w b t xs) (hb : Below B w w') (hlt : b < B) : Blk8 w' b t xs := by
  unfold Blk8 at h ⊢
  rw [hb.block b hlt]
  exact h
theorem St.list_length (s : St) : s.list.length = 8 := rfl
set_option maxRecDepth 100000 in
/-- What a row of eight words is loaded and stored by. -/
theorem info23 (xs : List Int) (h : xs.length = 8) : (Tryd.prog.info? 66).map (·.size) = some (cellsU32 xs).length ∧ (Tryd.prog.info? 66).map (·.size) = some (cellsU32 xs).toArray.size := by
  have e : (Tryd.prog.info? 66).map (·.size) = some 8 := rfl
  rw [List.size_toArray, cellsU32_length, h]
  exact ⟨e, e⟩
set_option maxRecDepth 100000 in
theorem info24 (xs : List Int) (h : xs.length = 64) : (Tryd.prog.info? 86).map (·.size) = some (cellsU8 xs).length := by
  have e : (Tryd.prog.info? 86).map (·.size) = some 64 := rfl
  rw [cellsU8_length, h]
  exact e

theorem wp_copy {P : Program} (w : World) {o : Oper} {a : Act} {K : Act → World → Prop} {Q : Exit → Act → World → Prop} (d s : Operand) (t t' : TypeId)
    (ho : o.op = .call { callee := .builtin .copy, args := #[d, s], argTypes := #[t, t'] }) (v u : Value) (hd : a.eval d = v) (hs : a.eval s = u) {v' : Value} {w' : World}
    (hr : (Builtin.copy_ #[t, t'] o.type #[v, u]).run P w = .ok v' w') (h : K (a.put o.dst v') w') : o.wp P a w K Q := by
  unfold Oper.wp execOp
  simp only [ho, resolve, invoke, builtin, Sem.run_bind, Sem.run_pure, Result.andThen_ok, List.map_toArray, List.map_cons, List.map_nil, hd, hs, hr]
  exact h

set_option maxHeartbeats 2000000 in
set_option maxRecDepth 100000 in
theorem through_any (s0 : St) (v : Value) (xs ks : List Int) (nb : Nat) (w : World) (hp : Rd w v xs) (hnb : 64 * nb ≤ xs.length) (hks : ks.length = 64) (hB : Tab w ks) (hok : s0.ok) :
    Calls Tryd.prog 43 #[s0.agg, v, .int .i64 nb] w fun e w' => e = .returned (thruF ks xs s0 nb).agg ∧ Below w.heap.size w w' := by
  have hn : 1 < w.heap.size := hB.1
  have HP : Kept (Rd w v xs) := ⟨hp⟩
  clear hp
  simp only [St.agg]
  go_enter Tryd.func43, Tryd.ntmps43
  go_wp2
  go_loopw [10] (fun i wr => ∃ (k : Nat) (bs : List Int), k ≤ nb ∧ i = .int .i64 k ∧ bs.length = 64 ∧ Blk wr w.heap.size 66 (thruF ks xs s0 k).list ∧ Blk wr (w.heap.size + 1) 66 zeros8 ∧ Blk8 wr (w.heap.size + 1 + 1) 86 bs ∧ w.heap.size + 3 ≤ wr.heap.size ∧ Below w.heap.size w wr) (fun i _ => nb - (intOf i).toNat)
  case atStart =>
    obtain ⟨g1, g2, g3⟩ := heap3 w (.cells (cellsU32 s0.list).toArray 66) (.cells (cellsU32 zeros8).toArray 66) (.cells (cellsU8 (List.replicate 64 0)).toArray 86)
    exact ⟨0, List.replicate 64 0, by omega, rfl, by decide, blk_of g1 rfl, blk_of g2 rfl, blk8_of g3 rfl, by simp, (((Below.refl _ _).alloc (Nat.le_refl _) _).alloc (by simp) _).alloc (by simp; omega) _⟩
  case round =>
    obtain ⟨k, bs, hk, rfl, hbl, b0, b1, b2, hsz, hbel⟩ := hrel
    by_cases hlt : k < nb
    · obtain ⟨b, off, c, rfl, hlc, hcm, hblt, hcell⟩ := HP.out.open2 (by omega)
      have hA : AllB ((xs.drop (64 * k)).take 64) := (HP.out.allB.drop _).take _
      have hl64 : ((xs.drop (64 * k)).take 64).length = 64 := by simp; omega
      have hsrc : ∀ (m j : Nat) (u : Value), (cellsU8 ((xs.drop (64 * k)).take 64))[j]? = some u → (wr.drewN m).cell? ((⟨b, off + k * 64, none⟩ : Addr).add j) = some u := fun m j u hj => by
        obtain ⟨hj', rfl⟩ := cellsU8_get hj
        rw [add_plain]
        have e := hbel.cell (p := ⟨b, off + (k * 64 + j), none⟩) hblt
        rw [hcell (k * 64 + j) (by omega)] at e
        rw [Nat.add_assoc, getD_part _ _ _ (by omega), Nat.mul_comm 64 k]
        exact e
      have e1 : (0 : Int) ≤ (k : Int) * 64 := by omega
      have e2 : (k : Int) * 64 ≤ (xs.length : Int) := by omega
      have e3 : (xs.length : Int) ≤ (c : Int) := by omega
      have HT : Kept (thruF ks xs s0 (k + 1) = blockF ks (thruF ks xs s0 k) ((xs.drop (64 * k)).take 64)) := ⟨rfl⟩
      have hokk := thruF_ok (ks := ks) (xs := xs) hok k
      have HSRC : Kept (∀ (m j : Nat) (u : Value), (cellsU8 ((xs.drop (64 * k)).take 64))[j]? = some u → (wr.drewN m).cell? ((⟨b, off + k * 64, none⟩ : Addr).add j) = some u) := ⟨hsrc⟩
      clear hsrc hcell
      unfold maxLen at hcm
      go_upto_region 5 with fail
      refine wp_region_last _ 5 (by kernel_rfl) (by kernel_rfl) rfl rfl ?_
      simp only [List.take_succ_cons, List.take_zero]
      repeat (go_big_quiet_step (fail))
      refine wpQuiet_nil ?_
      intro m
      refine wp_copy _ _ _ _ _ rfl _ _ rfl rfl (run_copy_row Tryd.prog (wr.drewN m) 25 25 3 5 (w.heap.size + 1 + 1) 0 64 64 ⟨b, off + k * 64, none⟩ (xs.length - k * 64) (c - k * 64) (cellsU8 bs).toArray 86 (cellsU8 ((xs.drop (64 * k)).take 64)) Tryd.underlying25 rfl b2 (by rw [cellsU8_length, hl64]; simp only [Nat.min_def]; split <;> omega) (HSRC.out m) (by simp only [List.size_toArray, cellsU8_length, hl64, hbl]; try omega) (cellsU8_one _)) ?_
      have hrow : (List.take 0 (cellsU8 bs).toArray.toList ++ cellsU8 ((xs.drop (64 * k)).take 64) ++ List.drop (0 + (cellsU8 ((xs.drop (64 * k)).take 64)).length) (cellsU8 bs).toArray.toList).toArray = (cellsU8 ((xs.drop (64 * k)).take 64)).toArray := by
        rw [cellsU8_length, hl64]
        simp [cellsU8, hbl]
      rw [hrow]
      have B0 : Blk ((wr.drewN m).setRow (w.heap.size + 1 + 1) (cellsU8 ((xs.drop (64 * k)).take 64)).toArray) w.heap.size 66 (thruF ks xs s0 k).list := (setRow_other _ _ _ _ (by omega)).trans b0
      have B1 : Blk ((wr.drewN m).setRow (w.heap.size + 1 + 1) (cellsU8 ((xs.drop (64 * k)).take 64)).toArray) (w.heap.size + 1) 66 zeros8 := (setRow_other _ _ _ _ (by omega)).trans b1
      have B2 : Blk8 ((wr.drewN m).setRow (w.heap.size + 1 + 1) (cellsU8 ((xs.drop (64 * k)).take 64)).toArray) (w.heap.size + 1 + 1) 86 ((xs.drop (64 * k)).take 64) := setRow_heap _ _ _ _ _ _ b2
      have BK : Tab ((wr.drewN m).setRow (w.heap.size + 1 + 1) (cellsU8 ((xs.drop (64 * k)).take 64)).toArray) ks := hB.far (below_setRow (below_drewN hbel m) (by omega) _) hn
      have hsz2 : w.heap.size + 3 ≤ ((wr.drewN m).setRow (w.heap.size + 1 + 1) (cellsU8 ((xs.drop (64 * k)).take 64)).toArray).heap.size := by simpa using hsz
      have hbel2 : Below w.heap.size w ((wr.drewN m).setRow (w.heap.size + 1 + 1) (cellsU8 ((xs.drop (64 * k)).take 64)).toArray) := below_setRow (below_drewN hbel m) (by omega) _
      generalize (wr.drewN m).setRow (w.heap.size + 1 + 1) (cellsU8 ((xs.drop (64 * k)).take 64)).toArray = W at *
      have HC : Kept (Calls Tryd.prog 65 #[.agg (cellsU32 (thruF ks xs s0 k).list).toArray, .agg (cellsU8 ((xs.drop (64 * k)).take 64)).toArray] W fun e w' => e = .returned (.agg (cellsU32 (thruF ks xs s0 (k + 1)).list).toArray) ∧ Below W.heap.size W w') := ⟨block_any _ _ _ _ ks W hl64 hA hks BK hokk ⟨rfl⟩ ⟨rfl⟩⟩
      have hl1 : (thruF ks xs s0 k).list.length = 8 := rfl
      have hl2 : (thruF ks xs s0 (k + 1)).list.length = 8 := rfl
      clear HT hokk HSRC hrow b0 b1 b2 hsz hbel hB BK HP
      generalize (thruF ks xs s0 k).list = tl at *
      generalize hnl : (thruF ks xs s0 (k + 1)).list = nl at *
      have HNL : Kept ((thruF ks xs s0 (k + 1)).list = nl) := ⟨hnl⟩
      clear hnl
      generalize (xs.drop (64 * k)).take 64 = bs' at *
      have HR0 : Kept (W.rangeAt w.heap.size 0 (cellsU32 tl)) := ⟨B0.range⟩
      have HR2 : Kept (W.rangeAt (w.heap.size + 1 + 1) 0 (cellsU8 bs')) := ⟨B2.range⟩
      have HI0 := Kept.mk (info23 tl hl1)
      have HI1 := Kept.mk (info23 nl hl2)
      have HI2 := Kept.mk (info24 bs' hl64)
      have HO := Kept.mk (all_oneCell_toArray (cellsU32_one nl))
      have HB0 := Kept.mk B0
      have HB1 := Kept.mk B1
      have HB2 := Kept.mk B2
      clear B0 B1 B2 hA e1 e2 e3
      go_wp2_with (first | (refine wpList_load_mid rfl 66 _ rfl w.heap.size 0 rfl (cellsU32 tl) _ HR0.out Tryd.underlying66 rfl HI0.out.1 ?_) | (refine wpList_load_mid rfl 86 _ rfl (w.heap.size + 1 + 1) 0 rfl (cellsU8 bs') _ HR2.out Tryd.underlying86 rfl HI2.out ?_))
      refine Calls.mono HC.out (fun e wa hp => ?_)
      obtain ⟨rfl, hba⟩ := hp
      have HT2 : Kept (wa.there w.heap.size 0 (cellsU32 nl).toArray.size) := ⟨(HB0.out.far hba (by omega)).there _ (by simp only [List.size_toArray, cellsU32_length, hl1, hl2])⟩
      go_wp2_with (refine wpList_store_mid rfl 66 _ _ rfl w.heap.size 0 (cellsU32 nl).toArray rfl rfl HT2.out HI1.out.2 HO.out ?_)
      go_roundw
      case rel =>
        refine ⟨k + 1, bs', by omega, by go_num, hl64, ?_, (HB1.out.far hba (by omega)).cells_far (by omega) _, (HB2.out.far hba (by omega)).cells_far (by omega) _, ?_, ?_⟩
        · rw [HNL.out]
          exact (HB0.out.far hba (by omega)).over (by rw [hl1, hl2])
        · rw [size_setCells]
          have := hba.size
          omega
        · exact below_cells (Nat.le_refl _) _ 0 w wa (hbel2.trans (hba.mono (by omega)))
      case measure => simp [intOf]; omega
    · obtain rfl : k = nb := by omega
      have HR1 : Kept (wr.rangeAt w.heap.size 0 (cellsU32 (thruF ks xs s0 k).list)) := ⟨b0.range⟩
      have HT1 : Kept (wr.there (w.heap.size + 1) 0 8) := ⟨b1.there 8 rfl⟩
      have HF1 : Kept (Blk (wr.setCells (w.heap.size + 1) 0 (cellsU32 (thruF ks xs s0 k).list)) (w.heap.size + 1) 66 (thruF ks xs s0 k).list ∧ Below w.heap.size w (wr.setCells (w.heap.size + 1) 0 (cellsU32 (thruF ks xs s0 k).list))) := ⟨b1.over rfl, below_cells (b := w.heap.size + 1) (by omega) _ 0 w wr hbel⟩
      have HI := Kept.mk (info23 (thruF ks xs s0 k).list rfl)
      have HO := Kept.mk (all_oneCell_toArray (cellsU32_one (thruF ks xs s0 k).list))
      clear b0 b1 b2 hbel HP hB
      go_wp2_with (first | (refine wpList_load_mid rfl 66 _ rfl w.heap.size 0 rfl (cellsU32 (thruF ks xs s0 k).list) _ HR1.out Tryd.underlying66 rfl HI.out.1 ?_) | (refine wpList_store_mid rfl 66 _ _ rfl (w.heap.size + 1) 0 (cellsU32 (thruF ks xs s0 k).list).toArray rfl rfl HT1.out HI.out.2 HO.out ?_))
      refine bodyPost_ret (v := .agg (cellsU32 (thruF ks xs s0 k).list).toArray) (results_cell_row (p := 6) (ty := 66) Tryd.results43 _ _ (w.heap.size + 1) 66 _ (0, 0) _ rfl HF1.out.1 Tryd.underlying66 rfl HI.out.2) rfl ⟨rfl, HF1.out.2⟩


/-- Byte i of eight words. -/
def digB (l : List Int) (i : Nat) : Int := l.getD (i / 4) 0 / 2 ^ (24 - 8 * (i % 4)) % 256
def digF (l : List Int) : List Int := (List.range 32).map (digB l)
/-- The first k bytes. -/
def digK (l : List Int) (k : Nat) : List Int := (List.range k).map (digB l) ++ List.replicate (32 - k) 0
theorem digK_length (l : List Int) (k : Nat) (h : k ≤ 32) : (digK l k).length = 32 := by
  simp [digK]
  omega
theorem digK_step (l : List Int) (k : Nat) (h : k < 32) : (digK l k).set k (digB l k) = digK l (k + 1) := by
  have e : List.replicate (32 - k) (0 : Int) = 0 :: List.replicate (32 - (k + 1)) 0 := by
    rw [show 32 - k = (32 - (k + 1)) + 1 from by omega, List.replicate_succ]
  rw [digK, e, List.set_append_right _ _ (by simp), List.length_map, List.length_range, Nat.sub_self, List.set_cons_zero, digK, List.range_succ, List.map_append, List.append_assoc]
  rfl
theorem digK_all (l : List Int) : digK l 32 = digF l := by simp [digK, digF]
/-- What stands behind the last whole block, padded. -/
def lastF (xs : List Int) : List Int := xs.drop (64 * (xs.length / 64)) ++ padF xs.length
/-- The eight words of a sum. -/
def sumS (ks xs : List Int) : St := thruF ks (lastF xs) (thruF ks xs St.first (xs.length / 64)) ((lastF xs).length / 64)
theorem lastF_length (xs : List Int) : (lastF xs).length = xs.length % 64 + (1 + zcF xs.length + 8) := by
  rw [lastF, List.length_append, List.length_drop, padF, padP_length]
  omega

theorem Rd.drop {w : World} {a : Option Addr} {n c : Nat} {xs : List Int} (h : Rd w (.slice a n c) xs) (k : Nat) (hk : k ≤ xs.length) : Rd w (.slice (a.map fun x => x.add k) (n - k) (c - k)) (xs.drop k) := by
  obtain ⟨a', c', hv, h1, h2, h3, h4, h5⟩ := h
  injection hv with e1 e2 e3
  subst e1 e2 e3
  have hl : (xs.drop k).length = xs.length - k := List.length_drop
  refine ⟨a.map fun x => x.add k, c - k, by rw [hl], by rw [hl]; omega, by omega, h3.drop k, fun h => ?_, fun h => ?_⟩
  · cases a with
    | none => have := h4 rfl; omega
    | some x => cases h
  · obtain ⟨b, off, rfl, hlt, hc⟩ := h5 (by omega)
    refine ⟨b, off + k, by rw [Option.map_some, add_plain], hlt, fun i hi => ?_⟩
    have := hc (k + i) (by omega)
    rw [Nat.add_assoc, this]
    simp [List.getD]

theorem Blk8.frozen8 {w : World} {b : Nat} {t : TypeId} {xs : List Int} (h : Blk8 w b t xs) (i : Nat) : w.frozen? ⟨b, i, none⟩ = false := by
  unfold Blk8 at h
  simp [World.frozen?, h]
theorem Blk8.set8 {w : World} {b : Nat} {t : TypeId} {xs : List Int} (h : Blk8 w b t xs) (i : Nat) (y : Int) : Blk8 (w.setCell ⟨b, i, none⟩ (.int .u8 y)) b t (xs.set i y) := by
  unfold Blk8 at h ⊢
  simp only [World.setCell, Array.getElem?_modify, h]
  simp [cellsU8, List.map_set]
theorem Blk8.there8 {w : World} {b : Nat} {t : TypeId} {xs : List Int} (h : Blk8 w b t xs) (n : Nat) (hn : n = xs.length) : w.there b 0 n := by
  intro j hj
  rw [Nat.zero_add]
  exact ⟨by rw [h.cell j (by omega)]; rfl, h.frozen8 j⟩
theorem Blk8.over8 {w : World} {b : Nat} {t : TypeId} {zs ws : List Int} (h : Blk8 w b t zs) (hl : zs.length = ws.length) : Blk8 (w.setCells b 0 (cellsU8 ws)) b t ws := by
  have := heap_setCells b t (cellsU8 ws) 0 w _ h
  have e := setL_all (cellsU8 ws) [] (cellsU8 zs) (by simp [cellsU8, hl])
  simp only [List.nil_append, List.length_nil] at e
  rw [e] at this
  exact this
theorem Rd.none (w : World) (a : Option Addr) : Rd w (.slice a 0 0) [] := ⟨a, 0, rfl, Nat.le_refl _, Nat.zero_le _, AllB.nil, fun _ => rfl, fun h => by simp at h⟩
set_option maxHeartbeats 2000000 in
set_option maxRecDepth 100000 in
theorem sum_any (v : Value) (xs ks : List Int) (w : World) (hp : Rd w v xs) (hks : ks.length = 64) (hB : Tab w ks) :
    Calls Tryd.prog 22 #[v] w fun e w' => e = .returned (.agg (cellsU8 (digF (sumS ks xs).list)).toArray) ∧ Below w.heap.size w w' := by
  have hn : 1 < w.heap.size := hB.1
  obtain ⟨a, c, rfl, hac, hlc, hcm, -⟩ := hp.form
  have HP : Kept (Rd w (.slice a xs.length c) xs) := ⟨hp⟩
  have hAx := hp.allB
  have HB : Kept (Tab w ks) := ⟨hB⟩
  clear hp hac hB
  unfold maxLen at hcm
  go_enter Tryd.func22, Tryd.ntmps22
  go_wp2_with fail
  have HQ : Kept ((xs.length : Int) / 64 = ((xs.length / 64 : Nat) : Int)) := ⟨by omega⟩
  refine Calls.mono (first_any _) (fun e w1 hp => ?_)
  obtain ⟨rfl, hb1⟩ := hp
  have BB1 : Below w.heap.size w w1 := ((Below.refl w.heap.size w).alloc (Nat.le_refl _) _).trans (hb1.mono (by simp))
  have ID1 : Blk8 w1 w.heap.size 39 (List.replicate 32 0) := (blk8_of (heap_alloc_new w _) rfl).far hb1 (by simp)
  have hz1 : w.heap.size + 1 ≤ w1.heap.size := by have := hb1.size; simp at this; omega
  clear hb1
  simp only [St.agg_list]
  go_wp2_with fail
  rw [HQ.out]
  refine Calls.mono (through_any St.first _ xs ks (xs.length / 64) w1 (HP.out.later BB1 (Nat.le_refl _)) (by omega) hks (HB.out.far BB1 hn) St.first_ok) (fun e w2 hp => ?_)
  obtain ⟨rfl, hb2⟩ := hp
  have BB2 : Below w.heap.size w w2 := BB1.trans (hb2.mono (by omega))
  have ID2 : Blk8 w2 w.heap.size 39 (List.replicate 32 0) := ID1.far hb2 (by omega)
  have hz2 : w.heap.size + 1 ≤ w2.heap.size := by have := hb2.size; omega
  clear hb2 BB1 ID1 hz1
  simp only [St.agg_list]
  have hok1 := thruF_ok (ks := ks) (xs := xs) St.first_ok (xs.length / 64)
  have HS1 : Kept (sumS ks xs = thruF ks (lastF xs) (thruF ks xs St.first (xs.length / 64)) ((lastF xs).length / 64)) := ⟨rfl⟩
  generalize thruF ks xs St.first (xs.length / 64) = s1 at *
  have HI := Kept.mk (info23 s1.list rfl)
  have HO := Kept.mk (all_oneCell_toArray (cellsU32_one s1.list))
  have HT : Kept ((w2.alloc (.cells #[.int .u32 0, .int .u32 0, .int .u32 0, .int .u32 0, .int .u32 0, .int .u32 0, .int .u32 0, .int .u32 0] 66)).there w2.heap.size 0 8) := ⟨(alloc_blk w2 zeros8 66).there 8 rfl⟩
  go_upto_region 3 with (refine wpList_store_mid rfl 66 _ _ rfl w2.heap.size 0 (cellsU32 s1.list).toArray rfl rfl HT.out HI.out.2 HO.out ?_)
  simp only [Act.put]
  have BH : Blk ((w2.alloc (.cells #[.int .u32 0, .int .u32 0, .int .u32 0, .int .u32 0, .int .u32 0, .int .u32 0, .int .u32 0, .int .u32 0] 66)).setCells w2.heap.size 0 (cellsU32 s1.list)) w2.heap.size 66 s1.list := (alloc_blk w2 zeros8 66).over rfl
  have ID3 : Blk8 ((w2.alloc (.cells #[.int .u32 0, .int .u32 0, .int .u32 0, .int .u32 0, .int .u32 0, .int .u32 0, .int .u32 0, .int .u32 0] 66)).setCells w2.heap.size 0 (cellsU32 s1.list)) w.heap.size 39 (List.replicate 32 0) := (ID2.alloc _).cells_far (by omega) _
  have BB3 : Below w.heap.size w ((w2.alloc (.cells #[.int .u32 0, .int .u32 0, .int .u32 0, .int .u32 0, .int .u32 0, .int .u32 0, .int .u32 0, .int .u32 0] 66)).setCells w2.heap.size 0 (cellsU32 s1.list)) := below_cells (by omega) _ 0 w _ (BB2.alloc (by omega) _)
  have hz3 : w2.heap.size < ((w2.alloc (.cells #[.int .u32 0, .int .u32 0, .int .u32 0, .int .u32 0, .int .u32 0, .int .u32 0, .int .u32 0, .int .u32 0] 66)).setCells w2.heap.size 0 (cellsU32 s1.list)).heap.size := by rw [size_setCells]; simp
  generalize ((w2.alloc (.cells #[.int .u32 0, .int .u32 0, .int .u32 0, .int .u32 0, .int .u32 0, .int .u32 0, .int .u32 0, .int .u32 0] 66)).setCells w2.heap.size 0 (cellsU32 s1.list)) = w3 at *
  generalize w2.heap.size = g at *
  clear HT ID2 BB2 w2
  have HX : Kept (lastF xs = xs.drop (64 * (xs.length / 64)) ++ padF xs.length) := ⟨rfl⟩
  have HLL : Kept ((lastF xs).length = xs.length % 64 + (1 + zcF xs.length + 8)) := ⟨lastF_length xs⟩
  have hq1 : 64 * (xs.length / 64) ≤ xs.length := by omega
  have hq2 : xs.length < 64 * (xs.length / 64) + 64 := by omega
  clear HQ
  generalize xs.length / 64 = q at *
  have hrd3 : Rd w3 (.slice a xs.length c) xs := HP.out.later BB3 (Nat.le_refl _)
  have HRD : Kept (Rd w3 (.slice (a.map fun x => x.add (q * 64)) (xs.length - q * 64) (c - q * 64)) (xs.drop (64 * q))) := ⟨by rw [Nat.mul_comm 64 q]; exact hrd3.drop (q * 64) (by omega)⟩
  have HRD0 : Kept (c = q * 64 → Rd w3 (.slice a (xs.length - q * 64) 0) (xs.drop (64 * q))) := ⟨fun h => by
    have e : xs.length - q * 64 = 0 := by omega
    have e2 : xs.drop (64 * q) = [] := List.eq_nil_of_length_eq_zero (by rw [List.length_drop]; omega)
    rw [e, e2]
    exact Rd.none w3 a⟩
  have hAd : AllB (padF xs.length) := padF_allB xs.length
  have HPL : Kept ((xs.drop (64 * q)).length + (padF xs.length).length ≤ 140737488355328) := ⟨by
    have := zcF_lt xs.length
    rw [List.length_drop, padF, padP_length]
    omega⟩
  obtain ⟨i0, z0, hi, hz, hs, hb, hc, -⟩ := info5
  clear hrd3
  go_cut [5] from 15 to 23 (fun s5 wx => Own 5 wx w.heap.size s5 (lastF xs) ∧ Blk wx g 66 s1.list ∧ Blk8 wx w.heap.size 39 (List.replicate 32 0) ∧ Below w.heap.size w wx ∧ g < wx.heap.size)
  case first =>
    go_wp2_with fail
    all_goals
      try subst h
      refine Calls.mono (clone_any _ (xs.drop (64 * q)) w3 (by first | exact HRD0.out rfl | exact HRD.out) (by have := HPL.out; omega)) (fun e w4 hp => ?_)
      obtain ⟨v4, rfl, ho4, hb4⟩ := hp
      go_wp2_with fail
      refine Calls.mono (pad_any (xs.length : Int) xs.length w4 (by rw [if_neg (by omega), Int.toNat_natCast]) (by omega) (by omega)) (fun e w5 hp => ?_)
      obtain ⟨v5, rfl, ho5, hb5⟩ := hp
      have ho4' := ho4.later hb5 (Nat.le_refl _)
      have h54 := hb4.size
      have h55 := hb5.size
      have HR5 := Kept.mk (Rd.own ho5 hAd)
      have HO4 := Kept.mk ho4'
      have HB5 : Kept (Below w3.heap.size w3 w5) := ⟨hb4.trans (hb5.mono (by omega))⟩
      clear ho4 ho5 ho4' hb4 hb5
      go_wp2_with (at_builtin; refine wpList_append_rd _ rfl _ _ 25 rfl w3.heap.size 5 i0 z0 Tryd.underlying25 hi hz hs hb hc v4 (xs.drop (64 * q)) rfl HO4.out v5 (padF xs.length) rfl HR5.out HPL.out (by omega) ?_; intro v6 w6 hown hgrow hat)
      have hb6 := HB5.out.grown hgrow (by omega) (own_ge HO4.out)
      have HO6 := Kept.mk hown
      clear hown hgrow hat
      go_wp2_with fail
      go_meet
      case rel =>
        have h66 := hb6.size
        exact ⟨by rw [HX.out]; exact HO6.out.mono (by have := BB3.size; omega), BH.far hb6 hz3, ID3.far hb6 (by omega), BB3.trans (hb6.mono (by have := BB3.size; omega)), by omega⟩
  case rest =>
    clear HRD HRD0 HPL BH ID3 BB3 hz3 HP HX
    obtain ⟨ho5, BH, ID, BB, hzc⟩ := hcut
    have hAl : AllB (lastF xs) := by
      unfold lastF
      exact (hAx.drop _).append hAd
    have hrl := Rd.own ho5 hAl
    obtain ⟨a5, c5, hv5, -, h5l, h5m, -⟩ := hrl.form
    subst hv5
    unfold maxLen at h5m
    have HRL := Kept.mk hrl
    have HBW := Kept.mk (HB.out.far BB hn)
    clear ho5 hrl hAl hAd HB
    have HR1 := Kept.mk BH.range
    generalize hll : (lastF xs).length = ll at *
    have HLQ : Kept ((ll : Int) / 64 = ((ll / 64 : Nat) : Int)) := ⟨by omega⟩
    go_wp2_with (refine wpList_load_mid rfl 66 _ rfl g 0 rfl (cellsU32 s1.list) _ HR1.out Tryd.underlying66 rfl HI.out.1 ?_)
    rw [HLQ.out]
    refine Calls.mono (through_any s1 _ (lastF xs) ks (ll / 64) wc HRL.out (by omega) hks HBW.out hok1) (fun e wd hp => ?_)
    obtain ⟨rfl, hbd⟩ := hp
    simp only [St.agg_list]
    have HS2 : Kept (sumS ks xs = thruF ks (lastF xs) s1 (ll / 64)) := ⟨HS1.out⟩
    clear HS1 HLQ HRL HBW HR1 HI HO hok1
    generalize thruF ks (lastF xs) s1 (ll / 64) = s2 at *
    have hzd := hbd.size
    have BHd := BH.far hbd hzc
    have IDd := ID.far hbd (by omega)
    have BBd := BB.trans (hbd.mono (by omega))
    clear BH ID BB hbd
    have HI := Kept.mk (info23 s2.list rfl)
    have HO := Kept.mk (all_oneCell_toArray (cellsU32_one s2.list))
    have HT := Kept.mk (BHd.there 8 rfl)
    go_upto_region 5 with (refine wpList_store_mid rfl 66 _ _ rfl g 0 (cellsU32 s2.list).toArray rfl rfl HT.out HI.out.2 HO.out ?_)
    simp only [Act.put]
    have B1 : Blk (wd.setCells g 0 (cellsU32 s2.list)) g 66 s2.list := BHd.over rfl
    have I1 : Blk8 (wd.setCells g 0 (cellsU32 s2.list)) w.heap.size 39 (List.replicate 32 0) := IDd.cells_far (by omega) _
    have E1 : Below w.heap.size w (wd.setCells g 0 (cellsU32 s2.list)) := below_cells (by omega) _ 0 w _ BBd
    have hz1 : g < (wd.setCells g 0 (cellsU32 s2.list)).heap.size := by rw [size_setCells]; omega
    clear BHd IDd BBd HT HI HO hzd hzc
    generalize wd.setCells g 0 (cellsU32 s2.list) = we at *
    have hl8 : s2.list.length = 8 := rfl
    have HS3 : Kept ((sumS ks xs).list = s2.list) := ⟨by rw [HS2.out]⟩
    clear HS2
    generalize s2.list = l at *
    go_wp2
    go_loopw [30] (fun i wr => ∃ (k : Nat), k ≤ 32 ∧ i = .int .i64 k ∧ Blk8 wr we.heap.size 39 (digK l k) ∧ Blk wr g 66 l ∧ Blk8 wr w.heap.size 39 (List.replicate 32 0) ∧ Below w.heap.size w wr) (fun i _ => 32 - (intOf i).toNat)
    case atStart => exact ⟨0, by omega, rfl, blk8_of (heap_alloc_new we _) rfl, B1.alloc _, I1.alloc _, E1.alloc (by omega) _⟩
    case round =>
      clear B1 I1 E1
      obtain ⟨k, hk, rfl, b0, b1, b2, hbel⟩ := hrel
      by_cases hlt : k < 32
      · have ck := b0.cell k (by rw [digK_length l k hk]; omega)
        have fk := b0.frozen8 k
        have cg := b1.cell (k / 4) (by omega)
        generalize (digK l k).getD k 0 = old at *
        have HD : Kept (digK l (k + 1) = (digK l k).set k (l.getD (k / 4) 0 / 2 ^ (24 - 8 * (k % 4)) % 256)) := ⟨(digK_step l k hlt).symm⟩
        generalize l.getD (k / 4) 0 = x at *
        have HB0 := Kept.mk b0
        have HB1 := Kept.mk b1
        have HB2 := Kept.mk b2
        clear b0 b1 b2
        go_wp2
        go_roundw
        case rel =>
          refine ⟨k + 1, by omega, by go_num, ?_, HB1.out.other (by omega) _, HB2.out.other (by omega) _, hbel.setCell (by show w.heap.size ≤ we.heap.size; omega) _⟩
          rw [HD.out]
          exact HB0.out.set8 k _
        case measure => simp [intOf]; omega
      · obtain rfl : k = 32 := by omega
        rw [digK_all, ← HS3.out] at b0
        have hl32 : (digF (sumS ks xs).list).length = 32 := by simp [digF]
        generalize hdl : digF (sumS ks xs).list = dl at *
        have HDL := Kept.mk hdl
        clear hdl
        have HR1 := Kept.mk b0.range
        have HI1 : Kept ((Tryd.prog.info? 39).map (·.size) = some (cellsU8 dl).length) := ⟨by rw [cellsU8_length, hl32]; rfl⟩
        have HI2 : Kept ((Tryd.prog.info? 39).map (·.size) = some (cellsU8 dl).toArray.size) := ⟨by rw [List.size_toArray]; exact HI1.out⟩
        have HT1 : Kept (wr.there w.heap.size 0 (cellsU8 dl).toArray.size) := ⟨b2.there8 _ (by rw [List.size_toArray, cellsU8_length, hl32, List.length_replicate])⟩
        have HO1 := Kept.mk (all_oneCell_toArray (cellsU8_one dl))
        have HF1 : Kept (Blk8 (wr.setCells w.heap.size 0 (cellsU8 dl)) w.heap.size 39 dl ∧ Below w.heap.size w (wr.setCells w.heap.size 0 (cellsU8 dl))) := ⟨b2.over8 (by rw [hl32, List.length_replicate]), below_cells (Nat.le_refl _) _ 0 w wr hbel⟩
        clear b0 b1 b2 hbel HS3
        go_wp2_with (first | (refine wpList_load_mid rfl 39 _ rfl we.heap.size 0 rfl (cellsU8 dl) _ HR1.out Tryd.underlying39 rfl HI1.out ?_) | (refine wpList_store_mid rfl 39 _ _ rfl w.heap.size 0 (cellsU8 dl).toArray rfl rfl HT1.out HI2.out HO1.out ?_))
        refine bodyPost_ret (v := .agg (cellsU8 dl).toArray) (results_cell_row (p := 2) (ty := 39) Tryd.results22 _ _ w.heap.size 39 _ (0, 0) _ rfl HF1.out.1 Tryd.underlying39 rfl HI2.out) rfl ⟨by rw [HDL.out], HF1.out.2⟩

/-- The table of the rounds. -/
def ksK : List Int := [1116352408, 1899447441, 3049323471, 3921009573, 961987163, 1508970993, 2453635748, 2870763221, 3624381080, 310598401, 607225278, 1426881987, 1925078388, 2162078206, 2614888103, 3248222580, 3835390401, 4022224774, 264347078, 604807628, 770255983, 1249150122, 1555081692, 1996064986, 2554220882, 2821834349, 2952996808, 3210313671, 3336571891, 3584528711, 113926993, 338241895, 666307205, 773529912, 1294757372, 1396182291, 1695183700, 1986661051, 2177026350, 2456956037, 2730485921, 2820302411, 3259730800, 3345764771, 3516065817, 3600352804, 4094571909, 275423344, 430227734, 506948616, 659060556, 883997877, 958139571, 1322822218, 1537002063, 1747873779, 1955562222, 2024104815, 2227730452, 2361852424, 2428436474, 2756734187, 3204031479, 3329325298]
theorem ksK_length : ksK.length = 64 := by decide
theorem digF_allB (l : List Int) : AllB (digF l) := by
  intro x hx
  obtain ⟨i, _, rfl⟩ := List.mem_map.1 hx
  unfold digB
  omega
theorem digF_length (l : List Int) : (digF l).length = 32 := by simp [digF]

theorem rd_blockF (w : World) (arr : List Int) (t : TypeId) (fr : Nat × Nat) (hA : AllB arr) (hn : arr.length ≤ 1000000) : Rd (w.alloc (.cells (cellsU8 arr).toArray t fr)) (.slice (some ⟨w.heap.size, 0, none⟩) arr.length arr.length) arr := by
  refine ⟨some ⟨w.heap.size, 0, none⟩, arr.length, rfl, Nat.le_refl _, by unfold maxLen; omega, hA, (fun h => by cases h), fun _ => ⟨w.heap.size, 0, rfl, by simp, fun i hi => ?_⟩⟩
  rw [Nat.zero_add, cell_of_row _ w.heap.size i _ t fr (heap_alloc_new w _)]
  simp [cellsU8, List.getD, List.getElem?_eq_getElem hi]

end Go.Proofs.YthkaohkondkhgaaDoor.Sh
