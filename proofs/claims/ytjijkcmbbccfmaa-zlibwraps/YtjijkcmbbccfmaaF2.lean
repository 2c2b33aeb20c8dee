/-
  Walks: number.
-/
import Derived.Test.YtjijkcmbbccfmaaF1
import Derived.Test.YtjijkcmbbccfmaaFQ
namespace Go.Proofs.Ytjijkcmbbccfmaa
open Go.RowKit

/-- What a call of the writer leaves: these bits behind those that were there. -/
def AfterW (W0 w w' : World) (rb : Nat) (ob : Option Nat) (L : List Int) (e : Ending) : Prop :=
  e = .returned (.tuple #[]) ∧ ∃ ob' j', Wt W0 w' rb ob' L j' ∧ L.length < 8 * j' + 8 ∧ Mq rb ob ob' w w'

/-- A byte of bits has gone. -/
theorem Wt.byte {W0 wr w1 : World} {rb : Nat} {ob1 : Option Nat} {B X : List Int} {i oc nc H1 K : Nat} {oa na : Option Addr} {V1 x : Int} (hT : Wt W0 wr rb ob1 B i) (hob : (Value.slice oa X.length oc).ownBlock = ob1)
    (hH : B.length - 8 * i = H1) (h8 : 8 ≤ H1) (hd : V1 / 256 = valL ((B.drop (8 * i)).drop 8)) (hN : packF (B.take (8 * (i + 1))) = X ++ [x]) (hR : WB w1 rb (.slice oa X.length oc) V1 H1) (hF : Fq rb ob1 wr w1)
    (hO : Own .u8 5 w1 W0.heap.size (.slice na (X ++ [x]).length nc) (X ++ [x])) (hat : (Value.slice na (X ++ [x]).length nc).ownBlock = (Value.slice oa X.length oc).ownBlock ∨ (Value.slice na (X ++ [x]).length nc).ownBlock = some K) (hK : wr.heap.size ≤ K) :
    Wt W0 (((w1.setCell ⟨rb, 0, none⟩ (.slice na (X.length + 1) nc)).setCell ⟨rb, 1, none⟩ (.int .u32 (V1 / 256))).setCell ⟨rb, 2, none⟩ (.int .i64 ((H1 : Int) - 8))) rb (Value.slice na (X.length + 1) nc).ownBlock B (i + 1) ∧
      Mq rb ob1 (Value.slice na (X.length + 1) nc).ownBlock wr (((w1.setCell ⟨rb, 0, none⟩ (.slice na (X.length + 1) nc)).setCell ⟨rb, 1, none⟩ (.int .u32 (V1 / 256))).setCell ⟨rb, 2, none⟩ (.int .i64 ((H1 : Int) - 8))) := by
  have hle := hT.le
  have hlt := hT.rb_lt
  simp only [List.length_append, List.length_singleton] at hO hat
  have ho2 : (Value.slice na (X.length + 1) nc).ownBlock ≠ some rb := by
    rcases hat with e | e
    · rw [e, hob]; exact hT.ho
    · rw [e]; simp; omega
  have hFF := ((hF.set 0 (.slice na (X.length + 1) nc)).set 1 (.int .u32 (V1 / 256))).set 2 (.int .i64 ((H1 : Int) - 8))
  have hF2 := (((Fq.refl rb none w1).set 0 (.slice na (X.length + 1) nc)).set 1 (.int .u32 (V1 / 256))).set 2 (.int .i64 ((H1 : Int) - 8))
  refine ⟨⟨⟨_, ?_, ?_, rfl⟩, by omega, hT.ib, hFF.below hT.bel hT.hb (fun k hk => (hT.ob_ge k hk).1) hT.bel.size, hT.hb, ho2, hT.lb⟩, hFF, ?_⟩
  · rw [← drop_add8, ← hd, show ((B.length - 8 * (i + 1) : Nat) : Int) = (H1 : Int) - 8 from by omega]
    exact ((hR.s0 _).s1 _).s2 _
  · rw [hN]
    exact hO.far fun g hg => hF2.block g (hO.lt g hg).2 (fun e => ho2 (by rw [hg, e])) (by simp)
  · rcases hat with e | e
    · exact Or.inl (by rw [e, hob])
    · exact Or.inr ⟨K, e, hK⟩

set_option maxHeartbeats 1000000 in
set_option maxRecDepth 100000 in
theorem wnumber_any {W0 w : World} {rb : Nat} {ob : Option Nat} {L : List Int} {j : Nat} (v : Int) (n : Nat) (hv0 : 0 ≤ v) (hv1 : v < 2 ^ n) (hn : n ≤ 16) (h : Wt W0 w rb ob L j) (hj : L.length < 8 * j + 8) (hl : L.length + n ≤ 1073741824) :
    Calls Try.prog 19 #[.pointer (some ⟨rb, 0, none⟩), .int .i64 v, .int .i64 n] w fun e w' => AfterW W0 w w' rb ob (L ++ bitsL v n) e := by
  obtain ⟨i0, z0, hi, hz, hs, hb, hc⟩ := info8
  obtain ⟨outV, hB, own, hob⟩ := h.blk
  have hvr := valL_range (h.ib.drop (8 * j))
  rw [List.length_drop] at hvr
  have hle := h.le
  have hlay := or_lay _ v _ n hvr.1 hvr.2 (by omega) hn hv0 hv1
  have hval := val_laid L j n v hle hv0 hv1
  have hn16 : v < 65536 := by
    have : (2 : Int) ^ n ≤ 2 ^ 16 := by
      have : (2 : Nat) ^ n ≤ 2 ^ 16 := Nat.pow_le_pow_right (by omega) (by omega)
      exact_mod_cast this
    simp only [Int.reducePow] at this
    omega
  obtain ⟨H, hH⟩ : ∃ H : Nat, L.length - 8 * j = H := ⟨_, rfl⟩
  obtain ⟨V, hV⟩ : ∃ V, valL (L.drop (8 * j)) = V := ⟨_, rfl⟩
  rw [hH, hV] at hvr hlay hval hB
  have c1 := hB.c1
  have c2 := hB.c2
  have f1 := hB.fz 1
  have f2 := hB.fz 2
  have hwz := h.bel.size
  have hH8 : H < 8 := by omega
  have HW : Kept (∀ m, Wt W0 (((w.drewN m).setCell ⟨rb, 1, none⟩ (.int .u32 (V + 2 ^ H * v))).setCell ⟨rb, 2, none⟩ (.int .i64 ((H : Int) + (n : Int)))) rb ob (L ++ bitsL v n) j ∧ Mq rb ob ob w (((w.drewN m).setCell ⟨rb, 1, none⟩ (.int .u32 (V + 2 ^ H * v))).setCell ⟨rb, 2, none⟩ (.int .i64 ((H : Int) + (n : Int))))) := ⟨fun m => by
    have hF := (((Fq.refl rb ob w).drewN m).set 1 (.int .u32 (V + 2 ^ H * v))).set 2 (.int .i64 ((H : Int) + (n : Int)))
    have hF0 := (((Fq.refl rb none w).drewN m).set 1 (.int .u32 (V + 2 ^ H * v))).set 2 (.int .i64 ((H : Int) + (n : Int)))
    refine ⟨⟨⟨outV, ?_, ?_, hob⟩, by simp; omega, h.ib.append (isBits_bitsL v n), hF.below h.bel h.hb (fun k hk => (h.ob_ge k hk).1) hwz, h.hb, h.ho, by rw [List.length_append, bitsL_length]; omega⟩, hF.mv⟩
    · have hB' : WB (w.drewN m) rb outV V H := hB
      rw [hval, List.length_append, bitsL_length, show ((L.length + n - 8 * j : Nat) : Int) = (H : Int) + (n : Int) from by omega]
      exact (hB'.s1 _).s2 _
    · rw [List.take_append_of_le_length hle]
      exact own.far fun g hg => hF0.block g (own.lt g hg).2 (fun e => h.ho (by rw [← hob, hg, e])) (by simp)⟩
  have KL := Kept.mk hlay
  clear h own hob hB hlay hvr hval hV
  obtain ⟨B, hBB⟩ : ∃ B, L ++ bitsL v n = B := ⟨_, rfl⟩
  rw [hBB]
  go_enter Try.func19, Try.ntmps19
  go_upto_region 0 with fail
  refine wp_region_last _ 14 (by kernel_rfl) (by kernel_rfl) rfl rfl ?_
  simp only [List.take_succ_cons, List.take_zero]
  repeat (go_big_quiet_step (fail))
  refine wpQuiet_nil ?_
  intro m
  go_wp2
  rw [KL.out.1]
  obtain ⟨w2, hw2, hW2⟩ : ∃ w2, (((w.drewN m).setCell ⟨rb, 1, none⟩ (.int .u32 (V + 2 ^ H * v))).setCell ⟨rb, 2, none⟩ (.int .i64 ((H : Int) + (n : Int)))) = w2 ∧ Wt W0 w2 rb ob (L ++ bitsL v n) j ∧ Mq rb ob ob w w2 := ⟨_, rfl, HW.out m⟩
  rw [hw2]
  have hLB : (L ++ bitsL v n).length ≤ 1073741824 := by rw [List.length_append, bitsL_length]; omega
  rw [hBB] at hW2
  have KW2 := Kept.mk hW2
  clear hw2 hW2 HW KL c1 c2 f1 f2 hH8 hH hn16 hle hl hj hv0 hv1 hn
  rw [hBB] at hLB
  clear hBB
  go_loopw [] (fun wr => ∃ ob' i, Wt W0 wr rb ob' B i ∧ Mq rb ob ob' w wr) (fun wr => (intOf ((wr.cell? ⟨rb, 2, none⟩).getD (.int .i64 0))).toNat)
  case atStart => exact ⟨ob, j, KW2.out⟩
  case round =>
    obtain ⟨ob1, i, hT, hM⟩ := hrel
    obtain ⟨outV, hB, own, hob⟩ := hT.blk
    obtain ⟨oa, oc, rfl, -, -, -⟩ := own.rd.form
    have hvr := valL_range (hT.ib.drop (8 * i))
    rw [List.length_drop] at hvr
    have hle := hT.le
    have hbyte := fun h8 => val_byte (hT.ib.drop (8 * i)) h8
    rw [List.length_drop] at hbyte
    obtain ⟨H1, hH1⟩ : ∃ H1 : Nat, B.length - 8 * i = H1 := ⟨_, rfl⟩
    obtain ⟨V1, hV1⟩ : ∃ V1, valL (B.drop (8 * i)) = V1 := ⟨_, rfl⟩
    rw [hH1, hV1] at hvr hB hbyte
    have c0 := hB.c0
    have c1 := hB.c1
    have c2 := hB.c2
    have f0 := hB.fz 0
    have f1 := hB.fz 1
    have f2 := hB.fz 2
    have hwz1 := hT.bel.size
    have KT := Kept.mk hT
    have KM := Kept.mk hM
    have KO := Kept.mk own
    have KB := Kept.mk hob
    have KR := Kept.mk hB
    clear hT hM own hob hB
    by_cases h8 : H1 < 8
    · go_wp2
      refine bodyPost_end (results_none rfl _ _ _) rfl ?_
      exact ⟨rfl, ob1, i, KT.out, by omega, KM.out⟩
    · have h8n : 8 ≤ H1 := by omega
      have h8i : (8 : Int) ≤ (H1 : Int) := by omega
      obtain ⟨hy, hd⟩ := hbyte (by omega)
      go_upto_region 3 with fail
      have hXl : (packF (List.take (8 * i) B)).length ≤ 1073741824 := by
        rw [packF_len _ _ (Nat.le_refl _), List.length_take]
        omega
      have KN : Kept (packF (List.take (8 * (i + 1)) B) = packF (List.take (8 * i) B) ++ [IntKind.u8.wrap V1]) := ⟨by
        rw [pack_byte B i (by omega), ← hy]
        congr 2⟩
      have KD := Kept.mk hd
      clear hd hy hbyte hV1
      generalize packF (List.take (8 * i) B) = X at *
      have KOA : Kept (∀ (w' : World) (o : Obj), w'.heap = (wr.alloc o).heap → Own .u8 5 w' W0.heap.size (.slice oa X.length oc) X) := ⟨fun w' o he => (KO.out.alloc o).far fun g _ => by rw [he]⟩
      have KRA : Kept (∀ (w' : World) (x : Int), w'.heap = (wr.alloc (.cells #[.int .u8 x] 5)).heap → Rd .u8 anyB w' (.slice (some ⟨wr.heap.size, 0, none⟩) 1 1) [x]) := ⟨fun w' x he => (Rd.one .u8 wr x 5).far (Nat.le_of_eq (by rw [he])) (fun b _ _ => ⟨trivial, by rw [he]⟩)⟩
      have KG : Kept (∀ (w' w1 : World) (o : Obj), w'.heap = (wr.alloc o).heap → w'.os = wr.os → w'.tape = wr.tape → w'.output = wr.output → w'.grownBy w1 (Value.slice oa X.length oc).ownBlock → WB w1 rb (.slice oa X.length oc) V1 H1 ∧ Fq rb ob1 wr w1) := ⟨fun w' w1 o he h1 h2 h3 hg => by
        have hsz : w'.heap.size = wr.heap.size + 1 := by rw [he]; simp
        have hlt := KR.out.lt
        constructor
        · refine KR.out.far ?_
          rw [hg.block rb (by omega) (fun e => KT.out.ho (by rw [← KB.out, ← e])), he]
          exact Below.heap_alloc wr _ rb hlt
        · refine ⟨hg.os.trans h1, hg.tape.trans h2, hg.output.trans h3, by have := hg.size; omega, fun k hk _ h5 => ?_⟩
          rw [hg.block k (by omega) (by rw [KB.out]; exact h5), he]
          exact Below.heap_alloc wr _ k hk⟩
      have KA : Kept (∀ (w' : World) (o : Obj), w'.heap = (wr.alloc o).heap → w'.cell? ⟨rb, 0, none⟩ = some (.slice oa X.length oc) ∧ w'.cell? ⟨rb, 1, none⟩ = some (.int .u32 V1)) := ⟨fun w' o he => by
        have hW : WB w' rb (.slice oa X.length oc) V1 H1 := KR.out.far (by rw [he]; exact Below.heap_alloc wr _ rb KR.out.lt)
        exact ⟨hW.c0, hW.c1⟩⟩
      have cA : ∀ o, (wr.alloc o).cell? ⟨rb, 0, none⟩ = some (.slice oa X.length oc) := fun o => (KA.out _ o rfl).1
      go_region_law ((refine step_append_rd (by rfl) _ _ 22 (by rfl) .u8 anyB 1 W0.heap.size 5 i0 z0 Try.underlying22 hi hz hs hb hc (by omega) (.slice oa X.length oc) X (by rfl) (KOA.out _ _ rfl) _ [IntKind.u8.wrap V1] (by rfl) (KRA.out _ _ rfl) (by simp; omega) (by simp; omega) ?_; intro v1 w1 hown hgrow hat; obtain ⟨na, nc, rfl, -, hl2, hcm2⟩ := hown.rd.form; obtain ⟨hR1, hF1⟩ := KG.out ((wr.alloc (.cells #[.int .u8 (IntKind.u8.wrap V1)] 5)).drew) w1 _ rfl rfl rfl rfl hgrow; have c01 := hR1.c0; have c11 := hR1.c1; have c21 := hR1.c2; have f01 := hR1.fz 0; have f11 := hR1.fz 1; have f21 := hR1.fz 2; have KR1 := Kept.mk hR1; have KF1 := Kept.mk hF1; have KO1 := Kept.mk hown; have KA1 := Kept.mk hat; clear hR1 hF1 hown hgrow hat hl2 hcm2))
      all_goals
        obtain ⟨hWt, hMq⟩ := KT.out.byte KB.out hH1 h8n KD.out KN.out KR1.out KF1.out KO1.out KA1.out (by simp)
        have KWt := Kept.mk hWt
        have KMq := Kept.mk hMq
        clear hWt hMq
        go_wp2
        go_roundw
        case rel => exact ⟨_, i + 1, KWt.out, KM.out.trans KMq.out⟩
        case measure =>
          obtain ⟨_, hBB, -⟩ := KWt.out.blk
          rw [hBB.c2, c2]
          simp [intOf]
          omega
end Go.Proofs.Ytjijkcmbbccfmaa
