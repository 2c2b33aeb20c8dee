/-
  Walks: the lines of commits and tags: putLine, putMessage.
-/
import Derived.Test.YtkbalngddlhlpaaGreatDoorO6
import Derived.Test.YtkbalngddlhlpaaGreatDoorN7
import Derived.Test.YtkbalngddlhlpaaGreatDoorO9
namespace Go.Proofs.YtkbalngddlhlpaaGreatDoor
open Go.RowKit

set_option maxHeartbeats 4000000 in
set_option maxRecDepth 100000 in
theorem putLine_any (v : Value) (xs : List Int) (a b : ByteArray) (base : Nat) (w : World) (hb : base ≤ w.heap.size) (ho : Own .u8 5 w base v xs) (hl : xs.length + a.size + b.size ≤ 100000000) :
    Calls Tryz.prog 33 #[v, .string a, .string b] w fun e w' => ∃ v', e = .returned v' ∧ Own .u8 5 w' base v' (xs ++ strL a ++ [32] ++ strL b ++ [10]) ∧ Below base w w' := by
  have KO := Kept.mk ho
  have Kb := Kept.mk hb
  have Kl := Kept.mk hl
  have KLa := Kept.mk (strL_length a)
  have KLb := Kept.mk (strL_length b)
  obtain ⟨i0, z0, hi, hz, hsz, hbb, hc⟩ := info8
  clear ho hb hl
  go_enter Tryz.func33, Tryz.ntmps33
  go_upto_region 2 with (at_builtin; refine wpList_append_s _ rfl _ _ rfl base _ xs rfl KO.out a rfl (by have := Kl.out; omega) Kb.out ?_; intro p4 w4 ho4 hg4; have KS4 := Kept.mk ho4; have KB4 : Kept (Below base w w4) := ⟨(Below.refl _ w).grown hg4 Kb.out (fun q hq => (KO.out.lt q hq).1)⟩; clear ho4 hg4)
  have Khs4 : Kept (base ≤ w4.heap.size) := ⟨Nat.le_trans Kb.out KB4.out.size⟩
  have KS4' := Kept.mk (KS4.out.alloc (.cells #[.int .u8 32] 5))
  have KB4' := Kept.mk (KB4.out.alloc Khs4.out (.cells #[.int .u8 32] 5))
  have Khs4' : Kept (base ≤ (w4.alloc (.cells #[.int .u8 32] 5)).heap.size) := ⟨Nat.le_trans Kb.out KB4'.out.size⟩
  clear KO
  go_upto_region 3 with (at_builtin; refine wpList_append_rd _ rfl _ _ 27 rfl .u8 anyB 1 base 5 i0 z0 Tryz.underlying27 hi hz hsz hbb hc (by omega) _ (xs ++ strL a) rfl KS4'.out _ [32] rfl (Rd.one .u8 _ 32 _) (by have := Kl.out; have := KLa.out; simp only [List.length_append, List.length_singleton]; omega) Khs4'.out ?_; intro p5 w5 ho5 hg5 ha5; have KS5 := Kept.mk ho5; have KB5 : Kept (Below base w w5) := ⟨KB4'.out.trans ((Below.refl _ _).grown hg5 Khs4'.out (fun q hq => (KS4'.out.lt q hq).1))⟩; clear ho5 hg5 ha5)
  have Khs5 : Kept (base ≤ w5.heap.size) := ⟨Nat.le_trans Kb.out KB5.out.size⟩
  clear KS4 KS4' KB4 KB4'
  go_upto_region 4 with (at_builtin; refine wpList_append_s _ rfl _ _ rfl base _ (xs ++ strL a ++ [32]) rfl KS5.out b rfl (by have := Kl.out; have := KLa.out; simp only [List.length_append, List.length_singleton]; omega) Khs5.out ?_; intro p6 w6 ho6 hg6; have KS6 := Kept.mk ho6; have KB6 : Kept (Below base w w6) := ⟨KB5.out.trans ((Below.refl _ _).grown hg6 Khs5.out (fun q hq => (KS5.out.lt q hq).1))⟩; clear ho6 hg6)
  have Khs6 : Kept (base ≤ w6.heap.size) := ⟨Nat.le_trans Kb.out KB6.out.size⟩
  have KS6' := Kept.mk (KS6.out.alloc (.cells #[.int .u8 10] 5))
  have KB6' := Kept.mk (KB6.out.alloc Khs6.out (.cells #[.int .u8 10] 5))
  have Khs6' : Kept (base ≤ (w6.alloc (.cells #[.int .u8 10] 5)).heap.size) := ⟨Nat.le_trans Kb.out KB6'.out.size⟩
  clear KS5 KB5
  go_wp2_with (at_builtin; refine wpList_append_rd _ rfl _ _ 27 rfl .u8 anyB 1 base 5 i0 z0 Tryz.underlying27 hi hz hsz hbb hc (by omega) _ (xs ++ strL a ++ [32] ++ strL b) rfl KS6'.out _ [10] rfl (Rd.one .u8 _ 10 _) (by have := Kl.out; have := KLa.out; have := KLb.out; simp only [List.length_append, List.length_singleton]; omega) Khs6'.out ?_; intro p7 w7 ho7 hg7 ha7; have KS7 := Kept.mk ho7; have KB7 : Kept (Below base w w7) := ⟨KB6'.out.trans ((Below.refl _ _).grown hg7 Khs6'.out (fun q hq => (KS6'.out.lt q hq).1))⟩; clear ho7 hg7 ha7)
  go_ret
  exact ⟨_, rfl, KS7.out, KB7.out⟩
set_option maxHeartbeats 4000000 in
set_option maxRecDepth 100000 in
theorem putMessage_any (v : Value) (xs : List Int) (b : ByteArray) (base : Nat) (w : World) (hb : base ≤ w.heap.size) (ho : Own .u8 5 w base v xs) (hl : xs.length + b.size ≤ 100000000) :
    Calls Tryz.prog 35 #[v, .string b] w fun e w' => ∃ v', e = .returned v' ∧ Own .u8 5 w' base v' (xs ++ [10] ++ strL b) ∧ Below base w w' := by
  have Kb := Kept.mk hb
  have Kl := Kept.mk hl
  obtain ⟨i0, z0, hi, hz, hsz, hbb, hc⟩ := info8
  have KS4' := Kept.mk (ho.alloc (.cells #[.int .u8 10] 5))
  have KB4' := Kept.mk ((Below.refl base w).alloc hb (.cells #[.int .u8 10] 5))
  have Khs4' : Kept (base ≤ (w.alloc (.cells #[.int .u8 10] 5)).heap.size) := ⟨Nat.le_trans hb KB4'.out.size⟩
  clear ho hb hl
  go_enter Tryz.func35, Tryz.ntmps35
  go_upto_region 2 with (at_builtin; refine wpList_append_rd _ rfl _ _ 27 rfl .u8 anyB 1 base 5 i0 z0 Tryz.underlying27 hi hz hsz hbb hc (by omega) _ xs rfl KS4'.out _ [10] rfl (Rd.one .u8 _ 10 _) (by have := Kl.out; simp only [List.length_singleton]; omega) Khs4'.out ?_; intro p5 w5 ho5 hg5 ha5; have KS5 := Kept.mk ho5; have KB5 : Kept (Below base w w5) := ⟨KB4'.out.trans ((Below.refl _ _).grown hg5 Khs4'.out (fun q hq => (KS4'.out.lt q hq).1))⟩; clear ho5 hg5 ha5)
  have Khs5 : Kept (base ≤ w5.heap.size) := ⟨Nat.le_trans Kb.out KB5.out.size⟩
  clear KS4' KB4'
  go_wp2_with (at_builtin; refine wpList_append_s _ rfl _ _ rfl base _ (xs ++ [10]) rfl KS5.out b rfl (by have := Kl.out; simp only [List.length_append, List.length_singleton]; omega) Khs5.out ?_; intro p6 w6 ho6 hg6; have KS6 := Kept.mk ho6; have KB6 : Kept (Below base w w6) := ⟨KB5.out.trans ((Below.refl _ _).grown hg6 Khs5.out (fun q hq => (KS5.out.lt q hq).1))⟩; clear ho6 hg6)
  go_ret
  exact ⟨_, rfl, KS6.out, KB6.out⟩


def clF (t word : List UInt8) : List UInt8 × List UInt8 := if Lib.hasPrefix t (word ++ [32]) then ((Lib.cut (t.drop (word.length + 1)) [10]).1, (Lib.cut (t.drop (word.length + 1)) [10]).2.1) else ([], t)
set_option maxHeartbeats 2000000 in
set_option maxRecDepth 100000 in
theorem cutLine_any (t word : ByteArray) (w : World) (hg : Gl w) (hs : t.size ≤ 1048576) (hw : word.size ≤ 100) :
    Calls Tryz.prog 61 #[.string t, .string word] w fun e w' => e = .returned (.tuple #[.string ⟨(clF t.data.toList word.data.toList).1.toArray⟩, .string ⟨(clF t.data.toList word.data.toList).2.toArray⟩]) ∧ Below w.heap.size w w' := by
  have hadd := run_string_add_sum (P := Tryz.prog) w word ⟨#[32]⟩ (by have : (⟨#[32]⟩ : ByteArray).size = 1 := rfl; omega)
  have hd : (word ++ (⟨#[32]⟩ : ByteArray)).data.toList = word.data.toList ++ [32] := by rw [ByteArray.data_append, Array.toList_append]
  have K1 := Kept.mk (Tryz.strings_CutPrefix t (word ++ ⟨#[32]⟩) w)
  rw [hd] at K1
  obtain ⟨m, hm⟩ := hg.mx
  have Km := Kept.mk hm
  have hwl : word.data.toList.length = word.size := by rw [Lib.size_eq]
  cases hp : Lib.hasPrefix t.data.toList (word.data.toList ++ [32]) with
  | false =>
    have e1 : Lib.trimPrefix t.data.toList (word.data.toList ++ [32]) = t.data.toList := by unfold Lib.trimPrefix; rw [hp]; rfl
    have e2 : clF t.data.toList word.data.toList = ([], t.data.toList) := by unfold clF; rw [hp]; rfl
    rw [hp, e1] at K1
    rw [e2]
    have e3 : (⟨t.data.toList.toArray⟩ : ByteArray) = t := rfl
    simp only [e3] at K1 ⊢
    clear hp e1 e2 e3 hd hm hwl
    generalize word ++ (⟨#[32]⟩ : ByteArray) = WS at *
    go_enter Tryz.func61, Tryz.ntmps61
    go_wp2_with fail
    refine Calls.mono K1.out (fun e w1 hp => ?_)
    obtain ⟨rfl, hw1⟩ := hp
    have hw1 := hw1.symm
    subst hw1
    go_wp2
    go_ret2
    exact ⟨rfl, Below.refl _ _⟩
  | true =>
    have e1 : Lib.trimPrefix t.data.toList (word.data.toList ++ [32]) = t.data.toList.drop (word.data.toList.length + 1) := by unfold Lib.trimPrefix; rw [hp]; simp
    have e2 : clF t.data.toList word.data.toList = ((Lib.cut (t.data.toList.drop (word.data.toList.length + 1)) [10]).1, (Lib.cut (t.data.toList.drop (word.data.toList.length + 1)) [10]).2.1) := by unfold clF; rw [hp]; rfl
    rw [hp, e1] at K1
    rw [e2]
    obtain ⟨D, hD⟩ : ∃ D, t.data.toList.drop (word.data.toList.length + 1) = D := ⟨_, rfl⟩
    have hDl : D.length ≤ 1048576 := by rw [← hD, List.length_drop, ← Lib.size_eq]; omega
    rw [hD] at K1
    rw [hD]
    have hsz : (⟨D.toArray⟩ : ByteArray).size = D.length := by rw [Lib.size_eq]
    have K2 := Kept.mk (Tryz.strings_Cut ⟨D.toArray⟩ ⟨#[10]⟩ m w (by omega) Km.out)
    have hc : (Lib.cut (⟨D.toArray⟩ : ByteArray).data.toList (⟨#[10]⟩ : ByteArray).data.toList) = Lib.cut D [10] := rfl
    rw [hc] at K2
    simp only
    generalize (Lib.cut D [10]).1 = A1 at *
    generalize (Lib.cut D [10]).2.1 = A2 at *
    generalize (Lib.cut D [10]).2.2 = A3 at *
    clear hp e1 e2 hd hm hwl hD hDl hsz hc
    generalize word ++ (⟨#[32]⟩ : ByteArray) = WS at *
    go_enter Tryz.func61, Tryz.ntmps61
    go_wp2_with fail
    refine Calls.mono K1.out (fun e w1 hp => ?_)
    obtain ⟨rfl, hw1⟩ := hp
    have hw1 := hw1.symm
    subst hw1
    go_wp2_with fail
    refine Calls.mono K2.out (fun e w2 hp => ?_)
    obtain ⟨rfl, n2, hw2⟩ := hp
    have KB : Kept (Below w.heap.size w w2) := ⟨by rw [hw2]; exact below_drewN (Below.refl _ _) n2⟩
    clear hw2 K1 K2 Km
    go_wp2
    go_ret2
    exact ⟨rfl, KB.out⟩
def rmF (t : List UInt8) : List UInt8 := Lib.trimPrefix t [10]
set_option maxHeartbeats 1000000 in
set_option maxRecDepth 100000 in
theorem readMessage_any (t : ByteArray) (w : World) (hs : t.size ≤ 1048576) :
    Calls Tryz.prog 65 #[.string t] w fun e w' => e = .returned (.string ⟨(rmF t.data.toList).toArray⟩) ∧ Below w.heap.size w w' := by
  have K1 := Kept.mk (Tryz.strings_TrimPrefix t ⟨#[10]⟩ w)
  have hc : (Lib.trimPrefix t.data.toList (⟨#[10]⟩ : ByteArray).data.toList) = rmF t.data.toList := rfl
  rw [hc] at K1
  have hl : (rmF t.data.toList).length ≤ t.size := by
    rw [Lib.size_eq]
    unfold rmF Lib.trimPrefix
    split
    · rw [List.length_drop]; omega
    · exact Nat.le_refl _
  have K2 := Kept.mk (clone_any ⟨(rmF t.data.toList).toArray⟩ w (by rw [Lib.size_eq]; simp only; omega))
  generalize rmF t.data.toList = R at *
  clear hc hl
  go_enter Tryz.func65, Tryz.ntmps65
  go_wp2_with fail
  refine Calls.mono K1.out (fun e w1 hp => ?_)
  obtain ⟨rfl, hw1⟩ := hp
  have hw1 := hw1.symm
  subst hw1
  go_wp2_with fail
  refine Calls.mono K2.out (fun e w2 hp => ?_)
  obtain ⟨rfl, hb⟩ := hp
  have KB := Kept.mk hb
  clear hb K1 K2
  go_wp2
  go_ret
  exact ⟨rfl, KB.out⟩
def hzF (s : ByteArray) : Bool := decide (0 ≤ Lib.indexByte s.data.toList 0)
set_option maxHeartbeats 400000 in
set_option maxRecDepth 100000 in
theorem hasZero_any (s : ByteArray) (w : World) : Calls Tryz.prog 67 #[.string s] w fun e w' => e = .returned (.bool (hzF s)) ∧ w' = w := by
  have K1 := Kept.mk (Tryz.strings_Contains_one s 0 w)
  have hc : decide (0 ≤ Lib.indexByte s.data.toList 0) = hzF s := rfl
  rw [hc] at K1
  generalize hzF s = R at *
  clear hc
  go_enter Tryz.func67, Tryz.ntmps67
  go_wp2_with fail
  refine Calls.mono K1.out (fun e w1 hp => ?_)
  obtain ⟨rfl, hw1⟩ := hp
  have hw1 := hw1.symm
  subst hw1
  go_wp2
  go_ret
  exact ⟨rfl, rfl⟩


theorem beq_bytes (a b : ByteArray) : (a.toList == b.toList) = decide (a = b) := by
  rw [Bool.eq_iff_iff, decide_eq_true_iff, beq_iff_eq]
  constructor
  · intro h
    rcases a with ⟨⟨a⟩⟩
    rcases b with ⟨⟨b⟩⟩
    simp only [Lib.toList_data] at h
    rw [h]
  · intro h; rw [h]


structure LbC where
  tg : List Int
  k : Int
  nm : ByteArray
  ig : Idt
  ms : ByteArray
def LbC.tl (c : LbC) : List Value := [.int .i64 c.k, .string c.nm, .string c.ig.nm, .string c.ig.em, .int .i64 c.ig.tm, .int .i64 c.ig.zn, .string c.ms]
def LbC.l (c : LbC) : List Value := cellsK .u8 c.tg ++ c.tl
def LbC.ok (c : LbC) : Prop := c.tg.length = 32 ∧ AllIn 0 256 c.tg ∧ -9223372036854775808 ≤ c.k ∧ c.k < 9223372036854775808 ∧ c.nm.size ≤ 140737488355328 ∧ c.ms.size ≤ 140737488355328
theorem LbC.len {c : LbC} (h : c.ok) : c.l.length = 39 := by
  unfold LbC.l LbC.tl
  rw [List.length_append, cellsK_length, h.1]
  rfl
theorem LbC.at' {c : LbC} (h : c.ok) (j : Nat) : c.l[32 + j]? = c.tl[j]? := by
  unfold LbC.l
  rw [List.getElem?_append_right (by rw [cellsK_length, h.1]; omega), cellsK_length, h.1, Nat.add_sub_cancel_left]
theorem LbC.ones (c : LbC) : ∀ u ∈ c.l, u.oneCell' = true := by
  intro u hu
  unfold LbC.l LbC.tl at hu
  rcases List.mem_append.1 hu with hu | hu
  · exact cellsK_one _ _ u hu
  · simp only [List.mem_cons, List.not_mem_nil, or_false] at hu
    rcases hu with rfl | rfl | rfl | rfl | rfl | rfl | rfl <;> rfl
def LbB (w : World) (g : Nat) (c : LbC) : Prop := w.heap[g]? = some (.cells c.l.toArray 127)
section
variable {w w' : World} {g : Nat} {c : LbC}
theorem LbB.lt (h : LbB w g c) : g < w.heap.size := by
  unfold LbB at h
  rcases Nat.lt_or_ge g w.heap.size with h' | h'
  · exact h'
  · rw [Array.getElem?_eq_none h'] at h
    cases h
theorem LbB.range (h : LbB w g c) : w.rangeAt g 0 c.l := by
  intro j v hv
  rw [Nat.zero_add, cell_of_row w g j _ 127 (0, 0) h]
  simpa using hv
theorem LbB.far {B : Nat} (h : LbB w g c) (hb : Below B w w') (hlt : g < B) : LbB w' g c := by
  unfold LbB at h ⊢
  rw [hb.block g hlt]
  exact h
theorem LbB.cell (h : LbB w g c) (hok : c.ok) (j : Nat) (v : Value) (hv : c.tl[j]? = some v) : w.cell? ⟨g, 32 + j, none⟩ = some v := by
  have := h.range (32 + j) v (by rw [LbC.at' hok]; exact hv)
  simpa using this
end
theorem LbC.box (w : World) (c : LbC) : ∃ w1, w.alloc (.cells c.l.toArray 127) = w1 ∧ Below w.heap.size w w1 ∧ LbB w1 w.heap.size c :=
  ⟨_, rfl, (Below.refl _ _).alloc (Nat.le_refl _) _, heap_alloc_new w _⟩
end Go.Proofs.YtkbalngddlhlpaaGreatDoor
