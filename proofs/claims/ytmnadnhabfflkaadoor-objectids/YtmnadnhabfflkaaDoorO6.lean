/-
  A list of one entry: treeError, PutTree.
-/
import Derived.Test.YtmnadnhabfflkaaDoorO5
import Derived.Lib.AppendStr
import Derived.Maps.AppendAt
namespace Go.Proofs.YtmnadnhabfflkaaDoor
open Go.RowKit

set_option maxHeartbeats 400000 in
set_option maxRecDepth 100000 in
theorem treeError_one {E : Array Value} {b : Nat} {fr : Nat × Nat} (h : Ent E 33188 ⟨#[97]⟩) (w : World) (hg : Gv w) (hb : w.heap[b]? = some (.cells E 39 fr)) :
    Calls Tryd.prog 20 #[.slice (some ⟨b, 0, none⟩) 1 1] w fun e w' => e = .returned (.int .i64 0) ∧ Below w.heap.size w w' := by
  have hblt : b < w.heap.size := (Array.getElem?_eq_some_iff.1 hb).1
  have hfar : ∀ w', Below w.heap.size w w' → w'.heap[b]? = some (.cells E 39 fr) := fun w' hw => by rw [hw.block b hblt]; exact hb
  have K1 := Kept.mk (treeSize_one h w hg hb)
  have K2 : Kept (∀ w', Below w.heap.size w w' → _) := ⟨fun w' hw => containsFunc1 h w' (hfar w' hw)⟩
  have K3 : Kept (∀ w', Below w.heap.size w w' → _) := ⟨fun w' hw => containsFunc2 h w' (hfar w' hw)⟩
  have K4 : Kept (∀ w', Below w.heap.size w w' → _) := ⟨fun w' hw => rising_one (b := b) w'⟩
  have K5 : Kept (∀ w', Below w.heap.size w w' → _) := ⟨fun w' hw => sameName_one h w' (hfar w' hw)⟩
  clear hg hb h hfar hblt
  go_enter Tryd.func20, Tryd.ntmps20
  go_wp2_with fail
  refine Calls.mono K1.out (fun e w1 hp => ?_)
  obtain ⟨rfl, hb1⟩ := hp
  have KB1 := Kept.mk hb1
  clear hb1
  go_wp2_with fail
  refine Calls.mono (K2.out w1 KB1.out) (fun e w2 hp => ?_)
  obtain ⟨rfl, hb⟩ := hp
  have KB2 := Kept.mk (KB1.out.trans (hb.mono KB1.out.size))
  clear hb
  go_wp2_with fail
  refine Calls.mono (K3.out w2 KB2.out) (fun e w3 hp => ?_)
  obtain ⟨rfl, hb⟩ := hp
  have KB3 := Kept.mk (KB2.out.trans (hb.mono KB2.out.size))
  clear hb
  go_wp2_with fail
  refine Calls.mono (K4.out w3 KB3.out) (fun e w4 hp => ?_)
  obtain ⟨rfl, hb⟩ := hp
  have KB4 := Kept.mk (KB3.out.trans (hb.mono KB3.out.size))
  clear hb
  go_wp2_with fail
  refine Calls.mono (K5.out w4 KB4.out) (fun e w5 hp => ?_)
  obtain ⟨rfl, hb⟩ := hp
  have KB5 := Kept.mk (KB4.out.trans (hb.mono KB4.out.size))
  clear hb
  go_wp2
  go_ret
  exact ⟨rfl, KB5.out⟩
/-- A text's letters as numbers. -/
def strL (s : ByteArray) : List Int := s.data.toList.map fun b => (b.toNat : Int)
theorem strL_length (s : ByteArray) : (strL s).length = s.size := by rw [strL, List.length_map, Lib.size_eq]
theorem cells_strL (s : ByteArray) : cellsK .u8 (strL s) = Lib.strCells s := by
  unfold cellsK strL Lib.strCells
  rw [List.map_map]
  rfl
theorem info8z : ∃ i, Tryd.prog.info? 5 = some i ∧ i.zero = some (.int .u8 0) ∧ i.size = 1 ∧ i.bytes = 1 := ⟨_, rfl, rfl, rfl, rfl⟩
theorem wpList_append_s (w : World) {ops : Array Oper} {rest : List Oper} {o : Oper} {a : Act} {Q : Exit → Act → World → Prop} (hgd : o.guard = none) (sl x : Operand)
    (ho : o.op = .call { callee := .builtin .append, args := #[sl, x], argTypes := #[22, 9] })
    (base : Nat) (v : Value) (xs : List Int) (hs : a.eval sl = v) (hown : Own .u8 5 w base v xs) (s : ByteArray) (hx : a.eval x = .string s)
    (hbytes : xs.length + s.size ≤ 140737488355328) (hbase : base ≤ w.heap.size)
    (h : ∀ v' w', Own .u8 5 w' base v' (xs ++ strL s) → w.grownBy w' v.ownBlock → wpList Tryd.prog ops Q rest (a.put o.dst v') w') : wpList Tryd.prog ops Q (o :: rest) a w := by
  obtain ⟨i, hi, hz, hsz, hb⟩ := info8z
  refine Lib.wpList_append_own_string w hgd sl x 22 9 ho base 5 i Tryd.underlying22 Tryd.underlying9 hi hz hsz hb v xs.length (cellsK .u8 xs) hs hown s hx (by unfold maxLen; omega) hbytes hbase (fun v' w' h1 h2 _ => h v' w' ?_ h2)
  unfold Own
  rw [List.length_append, strL_length, cellsK_append, cells_strL]
  exact h1
theorem slice32 (w : World) (g k : Nat) : (Instr.sliceAt 29 (.pointer (some ⟨g, k, none⟩)) none none none).run Tryd.prog w = .ok (.slice (some ⟨g, k, none⟩) 32 32) w := by
  have hl : Tryd.prog.arrayLen 29 = 32 := by kernel_rfl
  have he : Tryd.prog.elem 29 = 5 := by kernel_rfl
  have hs : (sizeOf 5).run Tryd.prog w = .ok 1 w := by
    obtain ⟨i, z, hi, hz, hs, hb, hc⟩ := info8
    simp [sizeOf, typeInfo, hi, hs]
  rw [run_sliceAt_array_all w 29 ⟨g, k, none⟩ (by rw [hl, he]; exact Tryd.underlying29), hl, he, hs]
  simp only [Result.andThen, slicedAt, Nat.zero_mul]
  rw [if_neg (by omega), add_plain, Nat.add_zero]
theorem rd_id {w : World} {E : Array Value} {m : Int} {nm : ByteArray} {g : Nat} {fr : Nat × Nat} (h : Ent E m nm) (hb : w.heap[g]? = some (.cells E 39 fr)) : Rd .u8 anyB w (.slice (some ⟨g, 2, none⟩) 32 32) (List.replicate 32 0) := by
  refine ⟨some ⟨g, 2, none⟩, 32, rfl, by simp, by unfold maxLen; omega, (fun h => by cases h), fun _ => ⟨g, 2, rfl, (Array.getElem?_eq_some_iff.1 hb).1, trivial, fun i hi => ?_⟩⟩
  have hi' : i < 32 := by simpa using hi
  rw [cell_of_row w g (2 + i) E _ fr hb, h.idz i hi', List.getD_eq_getElem?_getD, List.getElem?_replicate, if_pos hi']
  rfl
set_option maxHeartbeats 1000000 in
set_option maxRecDepth 100000 in
theorem putTree_one {E : Array Value} {b : Nat} {fr : Nat × Nat} (h : Ent E 33188 ⟨#[97]⟩) (w : World) (hg : Gv w) (hb : w.heap[b]? = some (.cells E 39 fr)) :
    Calls Tryd.prog 10 #[.slice (some ⟨b, 0, none⟩) 1 1] w fun e w' => ∃ v, e = .returned (.tuple #[v, .int .i64 0]) ∧ Own .u8 5 w' w.heap.size v ([49, 48, 48, 54, 52, 52, 32, 97, 0] ++ List.replicate 32 0) ∧ Below w.heap.size w w' := by
  have hblt : b < w.heap.size := (Array.getElem?_eq_some_iff.1 hb).1
  have hfar : ∀ w', Below w.heap.size w w' → w'.heap[b]? = some (.cells E 39 fr) := fun w' hw => by rw [hw.block b hblt]; exact hb
  have K1 := Kept.mk (treeError_one h w hg hb)
  have KI := Kept.mk (info_entry h.sz)
  have KS := Kept.mk h.sz
  have KO := Kept.mk h.one
  obtain ⟨i0, z0, hi, hz, hsz, hbb, hc⟩ := info8
  have KH := Kept.mk h
  have KG := Kept.mk hg
  have KF := Kept.mk hfar
  clear h hg hb hfar
  go_enter Tryd.func10, Tryd.ntmps10
  go_wp2_with fail
  refine Calls.mono K1.out (fun e w1 hp => ?_)
  obtain ⟨rfl, hb1⟩ := hp
  have RX := Kept.mk (KF.out w1 hb1)
  have KB1 := Kept.mk hb1
  obtain ⟨x2, hx2, hB2, hlt2, hh2, hc2⟩ := box_ent w1 KH.out
  have KB2 := Kept.mk (KB1.out.trans (hB2.mono KB1.out.size))
  have KM := modeDigits_any 33188 x2 (KG.out.later KB2.out) (by omega)
  rw [oct644, show ((33188 : Nat) : Int) = 33188 from rfl] at KM
  have hS : strL (strOfNums [49, 48, 48, 54, 52, 52]) = [49, 48, 48, 54, 52, 52] := by decide
  have hSz : (strOfNums [49, 48, 48, 54, 52, 52]).size = 6 := by rfl
  generalize strOfNums [49, 48, 48, 54, 52, 52] = S at *
  have KM := Kept.mk KM
  have KC2 := Kept.mk hc2
  have KHh := Kept.mk hh2
  have KSS := Kept.mk hS
  obtain ⟨c0, c1⟩ := hc2 x2 (Below.refl _ _)
  have hw1s := KB1.out.size
  clear hb1 hB2 hc2 hh2 K1 hS
  go_wp2
  go_loopw [5, 15] (fun pv kv wr => (kv = .int .i64 0 ∧ pv = .slice none 0 0 ∧ wr = w1) ∨ (kv = .int .i64 1 ∧ Own .u8 5 wr w.heap.size pv ([49, 48, 48, 54, 52, 52, 32, 97, 0] ++ List.replicate 32 0) ∧ Below w.heap.size w wr)) (fun _ kv _ => 1 - (intOf kv).toNat)
  case atStart => exact Or.inl ⟨rfl, rfl, rfl⟩
  case round =>
    rcases hrel with ⟨rfl, rfl, rfl⟩ | ⟨rfl, hown, hbel⟩
    · go_wp2_with (first | (refine BigFrame.wpList_want rfl (fun K hK => wp_load_row 39 _ rfl _ rfl _ E _ _ RX.out Tryd.underlying39 rfl KI.out (hK _ _ ?_))) | (refine BigFrame.wpList_want rfl (fun K hK => wp_store_row 39 _ _ rfl wr.heap.size E rfl rfl 39 _ (heap_alloc_new wr _) KI.out (by rw [KS.out]; rfl) KO.out (hK _ _ ?_)); rw [World.setRow_alloc_new]))
      refine Calls.mono KM.out (fun e w3 hp => ?_)
      obtain ⟨rfl, hb3⟩ := hp
      have KB3 := Kept.mk (KB2.out.trans (hb3.mono KB2.out.size))
      have K23 := Kept.mk hb3
      clear hb3 c0 c1
      go_wp2_with (first | (at_builtin; refine wpList_append_s _ rfl _ _ rfl x2.heap.size (.slice none 0 0) [] rfl (Own.nil _ _ _ _) S rfl (by simp; omega) K23.out.size ?_; intro p4 w4 ho4 hg4; have KB4 := Kept.mk (K23.out.grown hg4 K23.out.size (fun k hk => by cases hk)); rw [List.nil_append, KSS.out] at ho4; have KO4 := Kept.mk (ho4.alloc (.cells #[.int .u8 32] 5)); have KL4 := Kept.mk ho4; obtain ⟨a4, n4, rfl, -, -, -⟩ := ho4.rd.form; have KA4 := Kept.mk (KB4.out.alloc KB4.out.size (.cells #[.int .u8 32] 5)); clear ho4 hg4) | (at_builtin; refine wpList_append_rd _ rfl _ _ 22 rfl .u8 anyB 1 x2.heap.size 5 i0 z0 Tryd.underlying22 hi hz hsz hbb hc (by omega) _ [49, 48, 48, 54, 52, 52] rfl KO4.out _ [32] rfl (Rd.one .u8 _ 32 _) (by simp) KA4.out.size ?_; intro p5 w5 ho5 hg5 hat5; have KB5 := Kept.mk (KA4.out.grown hg5 KA4.out.size (fun k hk => (KL4.out.lt k hk).1)); have KO5 := Kept.mk ho5; obtain ⟨a5, n5, rfl, -, -, -⟩ := ho5.rd.form; obtain ⟨d0, d1⟩ := KC2.out w5 KB5.out; clear ho5 hg5 hat5) | (at_builtin; refine wpList_append_s _ rfl _ _ rfl x2.heap.size _ ([49, 48, 48, 54, 52, 52] ++ [32]) rfl KO5.out ⟨#[97]⟩ rfl (by decide) KB5.out.size ?_; intro p6 w6 ho6 hg6; have KB6 := Kept.mk (KB5.out.grown hg6 KB5.out.size (fun k hk => (KO5.out.lt k hk).1)); have KO6 := Kept.mk (ho6.alloc (.cells #[.int .u8 0] 5)); have KL6 := Kept.mk ho6; obtain ⟨a6, n6, rfl, -, -, -⟩ := ho6.rd.form; have KA6 := Kept.mk (KB6.out.alloc KB6.out.size (.cells #[.int .u8 0] 5)); clear ho6 hg6 d0 d1) | (at_builtin; refine wpList_append_rd _ rfl _ _ 22 rfl .u8 anyB 1 x2.heap.size 5 i0 z0 Tryd.underlying22 hi hz hsz hbb hc (by omega) _ ([49, 48, 48, 54, 52, 52] ++ [32] ++ strL ⟨#[97]⟩) rfl KO6.out _ [0] rfl (Rd.one .u8 _ 0 _) (by decide) KA6.out.size ?_; intro p7 w7 ho7 hg7 hat7; have KB7 := Kept.mk (KA6.out.grown hg7 KA6.out.size (fun k hk => (KL6.out.lt k hk).1)); have KO7 := Kept.mk ho7; obtain ⟨a7, n7, rfl, -, -, -⟩ := ho7.rd.form; have hsl := slice32 w7 wr.heap.size 2; have KR7 := Kept.mk (rd_id KH.out (by rw [KB7.out.block _ hlt2]; exact KHh.out)); clear ho7 hg7 hat7) | (at_builtin; refine wpList_append_rd _ rfl _ _ 22 rfl .u8 anyB 1 x2.heap.size 5 i0 z0 Tryd.underlying22 hi hz hsz hbb hc (by omega) _ ([49, 48, 48, 54, 52, 52] ++ [32] ++ strL ⟨#[97]⟩ ++ [0]) rfl KO7.out _ (List.replicate 32 0) rfl KR7.out (by decide) KB7.out.size ?_; intro p8 w8 ho8 hg8 hat8; have KB8 := Kept.mk (KB7.out.grown hg8 KB7.out.size (fun k hk => (KO7.out.lt k hk).1)); have KO8 := Kept.mk ho8; clear ho8 hg8 hat8))
      go_roundw
      case rel =>
        refine Or.inr ⟨rfl, ?_, KB2.out.trans (KB8.out.mono KB2.out.size)⟩
        exact KO8.out.mono KB2.out.size
      case measure => simp [intOf]
    · have KBr := Kept.mk hbel
      have KOr := Kept.mk hown
      clear hbel hown
      go_wp2
      go_ret2
      exact ⟨_, rfl, KOr.out, KBr.out⟩
end Go.Proofs.YtmnadnhabfflkaaDoor
