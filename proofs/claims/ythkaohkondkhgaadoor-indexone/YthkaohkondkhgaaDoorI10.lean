/-
  slotsOf.
-/
import Derived.Test.YthkaohkondkhgaaDoorI9
namespace Go.Proofs.YthkaohkondkhgaaDoor
open Go.RowKit

theorem fs_size {xs : List Int} (h : 80 ≤ xs.length) : (fsF xs).pt.size = endF xs - 74 ∧ 74 ≤ endF xs ∧ endF xs ≤ xs.length ∧ endF xs ≤ 74 + 4095 := by
  have hE : endF xs ≤ xs.length ∧ 74 ≤ endF xs ∧ endF xs ≤ 74 + 4095 := by unfold endF; omega
  refine ⟨?_, hE.2.1, hE.1, hE.2.2⟩
  unfold fsF
  simp only
  rw [Lib.size_eq, strOfNums_data, List.length_map, List.length_drop, List.length_take]
  omega
theorem fs_ok {xs : List Int} (hA : AllIn 0 256 xs) (h : 80 ≤ xs.length) : (fsF xs).ok := by
  have hs := fs_size h
  have b1 := bigT_bound hA 72 2
  have b2 := bigT_bound hA 24 4
  have b3 := bigT_bound hA 36 4
  have b4 := bigT_bound hA 8 4
  refine ⟨?_, (hA.take 72).drop 40, ?_, ?_, ?_, ?_, by omega⟩
  · unfold fsF
    simp only
    rw [List.length_drop, List.length_take]
    omega
  · unfold fsF i64B; simp only; omega
  · unfold fsF i64B; simp only; omega
  · unfold fsF i64B; simp only; omega
  · unfold fsF i64B; simp only; omega
def stepF (xs : List Int) : Nat := min xs.length (slz (fsF xs).pt.size)
theorem stepF_pos {xs : List Int} (h : 80 ≤ xs.length) : 75 ≤ stepF xs ∧ stepF xs ≤ xs.length := by
  have := slz_ge (fsF xs).pt.size
  unfold stepF
  omega
/-- The slots of bytes. -/
def slotsF (xs : List Int) : List SlC :=
  if _h : 80 ≤ xs.length then fsF xs :: slotsF (xs.drop (stepF xs)) else []
termination_by xs.length
decreasing_by
  have := stepF_pos _h
  rw [List.length_drop]
  omega
theorem slotsF_step {xs : List Int} (h : 80 ≤ xs.length) : slotsF xs = fsF xs :: slotsF (xs.drop (stepF xs)) := by rw [slotsF, dif_pos h]
theorem slotsF_end {xs : List Int} (h : ¬ 80 ≤ xs.length) : slotsF xs = [] := by rw [slotsF, dif_neg h]
theorem slotsF_ok : ∀ (n : Nat) (xs : List Int), xs.length ≤ n → AllIn 0 256 xs → ∀ e ∈ slotsF xs, e.ok
  | 0, xs, hn, _ => by rw [slotsF_end (by omega)]; intro e he; cases he
  | n + 1, xs, hn, hA => by
    by_cases h : 80 ≤ xs.length
    · rw [slotsF_step h]
      intro e he
      have hp := stepF_pos h
      rcases List.mem_cons.1 he with rfl | he
      · exact fs_ok hA h
      · exact slotsF_ok n _ (by rw [List.length_drop]; omega) (hA.drop _) e he
    · rw [slotsF_end h]; intro e he; cases he
theorem slotsF_len : ∀ (n : Nat) (xs : List Int), xs.length ≤ n → (slotsF xs).length ≤ xs.length
  | 0, xs, hn => by rw [slotsF_end (by omega)]; simp
  | n + 1, xs, hn => by
    by_cases h : 80 ≤ xs.length
    · have hp := stepF_pos h
      have := slotsF_len n (xs.drop (stepF xs)) (by rw [List.length_drop]; omega)
      rw [slotsF_step h, List.length_cons]
      rw [List.length_drop] at this
      omega
    · rw [slotsF_end h]; simp
set_option maxRecDepth 100000 in
/-- Bytes cut, whatever their address. -/
theorem sub_lh {pa : Option Addr} {pc : Nat} {L : List Int} {lo hi : Nat} (h1 : lo ≤ hi) (h2 : hi ≤ L.length) (h3 : L.length ≤ pc) : ∃ a c, (∀ W : World, (Instr.sliceAt 25 (.slice pa L.length pc) (some (.int .i64 lo)) (some (.int .i64 hi)) none).run Tryd.prog W = .ok (.slice a (hi - lo) c) W) ∧ ∀ (S : Nat → Prop) W, Rd .u8 S W (.slice pa L.length pc) L → Rd .u8 S W (.slice a (hi - lo) c) ((L.take hi).drop lo) := by
  refine ⟨if pc = lo then pa else pa.map (·.add lo), pc - lo, fun W => ?_, fun S W h => ?_⟩
  · have hs : (sizeOf (Tryd.prog.elem 25)).run Tryd.prog W = .ok 1 W := rfl
    rw [run_sliceAt_slice (P := Tryd.prog) W 25 _ _ _ _ Tryd.underlying25, run_slice_lh (P := Tryd.prog) W 25 pa L.length pc Tryd.underlying25 .i64 .i64 lo hi (by omega) (by omega) (by omega), hs]
    simp [sliced, Result.andThen]
  · have hlen : ((L.take hi).drop lo).length = hi - lo := by rw [List.length_drop, List.length_take]; omega
    by_cases h0 : 0 < hi - lo
    · obtain ⟨b, off, c, hv, hblt, hlc, hcm, hS, hc⟩ := h.open (by omega)
      injection hv with e1 _ e3
      subst e1 e3
      rw [if_neg (by omega)]
      refine ⟨some ⟨b, off + lo, none⟩, pc - lo, by rw [hlen]; simp [add_plain], by rw [hlen]; omega, by omega, (fun e => by cases e), fun _ => ⟨b, off + lo, rfl, hblt, hS, fun i hi' => ?_⟩⟩
      rw [hlen] at hi'
      rw [show off + lo + i = off + (lo + i) by omega, hc (lo + i) (by omega)]
      congr 2
      simp only [List.getD, List.getElem?_drop, List.getElem?_take]
      rw [if_pos (by omega)]
    · have hx : (L.take hi).drop lo = [] := List.eq_nil_of_length_eq_zero (by omega)
      obtain ⟨a0, c0, hv, hac, hlc, hcm⟩ := h.form
      injection hv with e1 _ e3
      subst e1 e3
      rw [hx, show hi - lo = 0 by omega]
      refine ⟨_, pc - lo, rfl, Nat.zero_le _, by omega, ?_, fun h => by simp at h⟩
      intro he
      by_cases hpl : pc = lo
      · omega
      · rw [if_neg hpl] at he
        cases pa with
        | none => have := hac rfl; omega
        | some x => simp at he
set_option maxRecDepth 100000 in
theorem sub_l {pa : Option Addr} {pc : Nat} {L : List Int} {lo : Nat} (h1 : lo ≤ L.length) (h3 : L.length ≤ pc) : ∃ a c, (∀ W : World, (Instr.sliceAt 25 (.slice pa L.length pc) (some (.int .i64 lo)) none none).run Tryd.prog W = .ok (.slice a (L.length - lo) c) W) ∧ ∀ (S : Nat → Prop) W, Rd .u8 S W (.slice pa L.length pc) L → Rd .u8 S W (.slice a (L.length - lo) c) (L.drop lo) := by
  obtain ⟨a, c, hr, hd⟩ := sub_lh (pa := pa) (pc := pc) (L := L) (lo := lo) (hi := L.length) h1 (Nat.le_refl _) h3
  refine ⟨a, c, fun W => ?_, fun S W h => ?_⟩
  · have h := hr W
    have hs : (sizeOf (Tryd.prog.elem 25)).run Tryd.prog W = .ok 1 W := rfl
    rw [run_sliceAt_slice (P := Tryd.prog) W 25 _ _ _ _ Tryd.underlying25, run_slice_lh (P := Tryd.prog) W 25 pa L.length pc Tryd.underlying25 .i64 .i64 lo L.length (by omega) (by omega) (by omega), hs] at h
    rw [run_sliceAt_slice (P := Tryd.prog) W 25 _ _ _ _ Tryd.underlying25, run_slice_l (P := Tryd.prog) W 25 pa L.length pc Tryd.underlying25 .i64 lo (by omega) (by omega), hs]
    rw [← h]
    simp [Result.andThen]
  · have h := hd S W h
    rwa [List.take_length] at h
theorem wpList_sliceB {P : Program} {ops : Array Oper} {rest : List Oper} {o : Oper} {a : Act} {w : World} {Q : Exit → Act → World → Prop} (hg : o.guard = none) (t : TypeId) (x : Operand) (lo hi : Option Operand) (ho : o.op = .slice t x lo hi none) (v : Value) (hr : (Instr.sliceAt t (a.eval x) (lo.map a.eval) (hi.map a.eval) none).run P w = .ok v w)
    (h : wpList P ops Q rest (a.put o.dst v) w) : wpList P ops Q (o :: rest) a w := by
  refine wpList_plain hg fun K hK => ?_
  unfold Oper.wp execOp
  simp only [ho, Sem.run_bind, Option.map_none]
  rw [hr]
  exact hK _ _ h
set_option maxRecDepth 100000 in
theorem zeroZ1 : ∃ i z, Tryd.prog.info? 41 = some i ∧ i.zero = some z ∧ i.size = 37 ∧ (Array.range (1 * 37)).map (z.cells[· % z.cells.size]!) = zS.l.toArray := ⟨_, _, rfl, rfl, rfl, by kernel_rfl⟩
/-- A slice of one slot. -/
theorem wpList_sliceZ {ops : Array Oper} {rest : List Oper} {o : Oper} {a : Act} {w : World} {Q : Exit → Act → World → Prop} (hg : o.guard = none) (o1 : Operand) (ho : o.op = .buildSlice 22 1 #[(0, o1)])
    (IL : List Value) (hl : IL.length = 37) (h1 : a.eval o1 = .agg IL.toArray)
    (h : wpList Tryd.prog ops Q rest (a.put o.dst (.slice (some ⟨w.heap.size, 0, none⟩) 1 1)) (w.alloc (.cells IL.toArray 41))) : wpList Tryd.prog ops Q (o :: rest) a w := by
  obtain ⟨i, z, hi, hz, hs, hr⟩ := zeroZ1
  refine wpList_buildSlice hg 22 41 1 _ ho IL.toArray i z Tryd.underlying22 hi hz (by rw [hs]; decide) (by rw [hs]; decide) ?_ h
  rw [hs, hr]
  simp only [List.map_toArray, List.map_cons, List.map_nil, h1]
  have zl : zS.l.length = 37 := SlC.len zS_ok
  have e0 : zS.l = [] ++ zS.l ++ [] := by simp
  rw [e0, fillE_cons _ 0 _ _ [] zS.l [] IL (by rw [zl]; rfl) rfl (by rw [hl, zl])]
  unfold Instr.fill
  simp
def slLen : Value → Nat
  | .slice _ n _ => n
  | _ => 0
set_option maxHeartbeats 1000000 in
set_option maxRecDepth 100000 in
theorem slotsOf_any {S : Nat → Prop} (v : Value) (xs : List Int) (w : World) (h : Rd .u8 S w v xs) (hA : AllIn 0 256 xs) (hl : xs.length ≤ 3000000) :
    Calls Tryd.prog 30 #[v] w fun e w' => ∃ v', e = .returned v' ∧ OwnZ w' w.heap.size v' (slotsF xs) ∧ Below w.heap.size w w' := by
  have KS0 : Kept (∀ W, Calls Tryd.prog 41 #[.int .i64 0] W fun e w' => e = .returned (.int .i64 80) ∧ w' = W) := ⟨fun W => slotSize_any 0 W (by omega)⟩
  obtain ⟨a, c, rfl, hac, hlc, hcm⟩ := h.form
  have KA := Kept.mk hA
  have KR := Kept.mk h
  clear h hA
  go_enter Tryd.func30, Tryd.ntmps30
  go_wp2
  go_loopw [0, 3] (fun pv lv wr => ∃ ys L, (∃ a1 c1, pv = .slice a1 ys.length c1 ∧ ys.length ≤ c1) ∧ Rd .u8 S w pv ys ∧ AllIn 0 256 ys ∧ (∃ a2 c2, lv = .slice a2 L.length c2) ∧ OwnZ wr w.heap.size lv L ∧ slotsF xs = L ++ slotsF ys ∧ L.length + ys.length ≤ 3000000 ∧ Below w.heap.size w wr) (fun pv _ _ => slLen pv)
  case atStart => exact ⟨xs, [], ⟨a, c, rfl, hlc⟩, KR.out, KA.out, ⟨none, 0, rfl⟩, OwnZ.nil _ _, by simp, by simpa using hl, Below.refl _ _⟩
  case round =>
    obtain ⟨ys, L, ⟨a1, c1, rfl, hyc⟩, hrd, hAy, ⟨a2, c2, rfl⟩, hO, hsl, hll, hbel⟩ := hrel
    have KBr := Kept.mk hbel
    have KO := Kept.mk hO
    have KRy := Kept.mk hrd
    have KSl := Kept.mk hsl
    by_cases h80 : 80 ≤ ys.length
    · have h80i : (80 : Int) ≤ (ys.length : Int) := by omega
      have KF := Kept.mk (firstSlot_any _ ys wr (hrd.later hbel (Nat.le_refl _)) hAy h80 (by omega))
      have hfo := fs_ok hAy h80
      have hfs := fs_size h80
      have hsp := stepF_pos h80
      have hlo : min (ys.length : Int) (slz (fsF ys).pt.size : Int) = (stepF ys : Int) := by unfold stepF; omega
      have KSz : Kept (∀ W, Calls Tryd.prog 41 #[.int .i64 ((fsF ys).pt.size : Nat)] W fun e w' => e = .returned (.int .i64 (slz (fsF ys).pt.size)) ∧ w' = W) := ⟨fun W => slotSize_any _ W (by omega)⟩
      obtain ⟨a3, c3, hr3, hd3⟩ := sub_l (pa := a1) (pc := c1) (L := ys) (lo := stepF ys) hsp.2 hyc
      have KR3 := Kept.mk hr3
      have hn3 := hd3 S w hrd
      have KStep : Kept (slotsF xs = (L ++ [fsF ys]) ++ slotsF (ys.drop (stepF ys))) := ⟨by rw [hsl, slotsF_step h80]; simp⟩
      have KAd := Kept.mk (hAy.drop (stepF ys))
      have KN3 : Kept (Rd .u8 S w (.slice a3 (ys.drop (stepF ys)).length c3) (ys.drop (stepF ys)) ∧ (ys.drop (stepF ys)).length ≤ c3) := ⟨by
        have hl3 : (ys.drop (stepF ys)).length = ys.length - stepF ys := List.length_drop
        rw [hl3]
        refine ⟨hn3, ?_⟩
        obtain ⟨_, _, hv, _, h5, _⟩ := hn3.form
        injection hv with e1 e2 e3
        rw [hl3] at h5
        omega⟩
      have hl3 : (ys.drop (stepF ys)).length = ys.length - stepF ys := List.length_drop
      have Kl3 := Kept.mk hl3
      have KfL := Kept.mk (SlC.len hfo)
      have Kfo := Kept.mk hfo
      have KI : Kept ((Tryd.prog.info? 41).map (·.size) = some (fsF ys).l.length) := ⟨SlC.info hfo⟩
      have KI2 : Kept ((Tryd.prog.info? 41).map (·.size) = some (fsF ys).l.toArray.size) := ⟨by rw [List.size_toArray]; exact KI.out⟩
      have KS : Kept ((fsF ys).l.toArray.size = 37) := ⟨by rw [List.size_toArray]; exact KfL.out⟩
      have KOn : Kept ((fsF ys).l.toArray.all (·.oneCell') = true) := ⟨by rw [Array.all_eq_true_iff_forall_mem]; intro x hx; exact SlC.ones _ x (by simpa using hx)⟩
      have Kc0 : Kept ((fsF ys).l[0]? = some (.string (fsF ys).pt)) := ⟨rfl⟩
      have hpz : ((fsF ys).pt.size : Int) ≤ 5000 := by omega
      have hst2 : stepF ys ≤ ys.length := hsp.2
      have hst75 : 75 ≤ stepF ys := hsp.1
      clear hbel hO hrd hAy hsl hfs hsp hr3 hd3 hn3 hfo hl3
      go_wp2_with fail
      refine Calls.mono (KS0.out _) (fun e w1 hp => ?_)
      obtain ⟨rfl, rfl⟩ := hp
      go_wp2_with fail
      refine Calls.mono KF.out (fun e w2 hp => ?_)
      obtain ⟨rfl, hb2⟩ := hp
      have KB2 := Kept.mk (KBr.out.trans (hb2.mono KBr.out.size))
      have KBw2 := Kept.mk hb2.size
      have KO2 := Kept.mk (KO.out.later hb2 (Nat.le_refl _))
      obtain ⟨x3, hx3, hBx, hzx, hbx, hcx⟩ := SlC.box w2 Kfo.out
      have KB3 := Kept.mk (KB2.out.trans (hBx.mono KB2.out.size))
      have KO3 := Kept.mk (KO2.out.later hBx (Nat.le_refl _))
      have KRx : Kept (x3.rangeAt w2.heap.size 0 (fsF ys).l) := ⟨fun j u hu => by
        unfold World.cell?
        simp only [hbx]
        rw [Nat.zero_add, List.getElem?_toArray]
        exact hu⟩
      have Kcx := Kept.mk hcx
      have Kzx := Kept.mk hzx
      clear hb2 hBx hzx hbx hcx KO2
      obtain ⟨x4, hx4, hB4, hz4, hb4, -⟩ := SlC.box x3 Kfo.out
      have KB4 := Kept.mk (KB3.out.trans (hB4.mono KB3.out.size))
      have KO4 := Kept.mk (KO3.out.later hB4 (Nat.le_refl _))
      have KR4 : Kept (x4.rangeAt x3.heap.size 0 (fsF ys).l) := ⟨fun j u hu => by
        unfold World.cell?
        simp only [hb4]
        rw [Nat.zero_add, List.getElem?_toArray]
        exact hu⟩
      have KB34 := Kept.mk hB4
      have hsz4 : w.heap.size ≤ x4.heap.size := KB4.out.size
      have hbb : (L.length + 1) * 80 ≤ 140737488355328 := by omega
      have Kge : Kept (w.heap.size ≤ w2.heap.size) := ⟨KB2.out.size⟩
      clear hB4 hz4 hb4 KO3
      generalize hFL : (fsF ys).l = FL at *
      go_upto_region 4 with (first | (refine BigFrame.wpList_want rfl (fun K hK => wp_store_row 41 _ _ rfl w2.heap.size FL.toArray rfl rfl 41 _ (heap_alloc_new w2 _) KI2.out (by rw [KS.out]; rfl) KOn.out (hK _ _ ?_)); rw [World.setRow_alloc_new]))
      try rw [hx3]
      go_upto_region 5 with (first | (refine wpList_load_mid rfl 41 _ rfl w2.heap.size 0 rfl FL _ KRx.out Tryd.underlying41 rfl KI.out ?_) | (refine wpList_sliceZ rfl _ rfl FL KfL.out rfl ?_; rw [hx4]) | (at_builtin; refine wpList_append_Z _ rfl _ _ rfl w.heap.size (.slice a2 L.length c2) L rfl KO4.out (fsF ys) Kfo.out x3.heap.size 1 rfl (by rw [hFL]; exact KR4.out) hbb hsz4 ?_; intro v6 w6 hown hgrow; obtain ⟨a6, c6, rfl, -⟩ := hown.form; have KO6 := Kept.mk hown; have KG6 := Kept.mk hgrow; clear hown hgrow))
      have KB6 : Kept (Below w.heap.size w w6) := ⟨KB4.out.grown KG6.out hsz4 (fun g hg => (KO4.out.lt g hg).1)⟩
      have hpt : w6.cell? ⟨w2.heap.size, 0, none⟩ = some (.string (fsF ys).pt) := by
        have h1 := (Kcx.out x4 KB34.out).1
        have hlt2 : w2.heap.size < x4.heap.size := by have := KB34.out.size; have := Kzx.out; omega
        unfold World.cell? at h1 ⊢
        rw [show w6.heap[w2.heap.size]? = x4.heap[w2.heap.size]? from KG6.out.block _ hlt2 (fun he => by
          have := KO.out.lt w2.heap.size he.symm
          have := KBw2.out
          omega)]
        exact h1
      go_wp2_with fail
      refine Calls.mono (KSz.out _) (fun e w7 hp => ?_)
      obtain ⟨rfl, rfl⟩ := hp
      go_wp2_with (refine wpList_sliceB rfl 25 _ _ _ rfl (.slice a3 (ys.length - stepF ys) c3) (by simp only [Option.map_some, Option.map_none]; first | exact KR3.out _ | (have := KR3.out w7; rw [← hlo] at this; exact this)) ?_)
      go_roundw
      case rel =>
        refine ⟨ys.drop (stepF ys), L ++ [fsF ys], ⟨a3, c3, by rw [Kl3.out], KN3.out.2⟩, by have := KN3.out.1; rwa [Kl3.out] at this, KAd.out, ⟨a6, c6, by simp⟩, by simpa using KO6.out, KStep.out, by rw [Kl3.out]; simp; omega, KB6.out⟩
      case measure => simp [slLen]; omega
    · have h80i : ¬ (80 : Int) ≤ (ys.length : Int) := by omega
      have KE : Kept (slotsF xs = L) := ⟨by rw [hsl, slotsF_end h80]; simp⟩
      clear hbel hO hrd hAy hsl
      go_wp2_with fail
      refine Calls.mono (KS0.out _) (fun e w1 hp => ?_)
      obtain ⟨rfl, rfl⟩ := hp
      go_wp2
      go_ret
      exact ⟨_, rfl, by rw [KE.out]; exact KO.out, KBr.out⟩
end Go.Proofs.YthkaohkondkhgaaDoor
