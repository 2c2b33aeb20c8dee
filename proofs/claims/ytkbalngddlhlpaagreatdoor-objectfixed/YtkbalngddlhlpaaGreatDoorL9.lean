/-
  Walks: readTag.
-/
import Derived.Test.YtkbalngddlhlpaaGreatDoorL8
import Derived.Test.YtkbalngddlhlpaaGreatDoorShD3
namespace Go.Proofs.YtkbalngddlhlpaaGreatDoor
open Go.RowKit

theorem cut_lens (l : List UInt8) (c : UInt8) : (Lib.cut l [c]).1.length ≤ l.length ∧ (Lib.cut l [c]).2.1.length ≤ l.length := by
  unfold Lib.cut
  split
  · exact ⟨by simp; omega, by simp⟩
  · exact ⟨Nat.le_refl _, by simp⟩
theorem clF_len (t word : List UInt8) : (clF t word).1.length ≤ t.length ∧ (clF t word).2.length ≤ t.length := by
  unfold clF
  split
  · have := cut_lens (t.drop (word.length + 1)) 10
    rw [List.length_drop] at this
    exact ⟨by simp only; omega, by simp only; omega⟩
  · exact ⟨by simp, Nat.le_refl _⟩
def wO : List UInt8 := [111, 98, 106, 101, 99, 116]
def wT : List UInt8 := [116, 121, 112, 101]
def wG : List UInt8 := [116, 97, 103]
def wR : List UInt8 := [116, 97, 103, 103, 101, 114]
def rtF (t : List UInt8) : LbC :=
  ⟨Sh.parF ⟨(clF t wO).1.toArray⟩, koF ⟨(clF (clF t wO).2 wT).1.toArray⟩, ⟨(clF (clF (clF t wO).2 wT).2 wG).1.toArray⟩,
    (prsF ⟨(clF (clF (clF (clF t wO).2 wT).2 wG).2 wR).1.toArray⟩).1, ⟨(rmF (clF (clF (clF (clF t wO).2 wT).2 wG).2 wR).2).toArray⟩⟩
theorem sz_mk (l : List UInt8) : (⟨l.toArray⟩ : ByteArray).size = l.length := by rw [Lib.size_eq]
theorem cutLine_l (t word : List UInt8) (w : World) (hg : Gl w) (hs : t.length ≤ 1048576) (hw : word.length ≤ 100) :
    Calls Tryz.prog 61 #[.string ⟨t.toArray⟩, .string ⟨word.toArray⟩] w fun e w' => e = .returned (.tuple #[.string ⟨(clF t word).1.toArray⟩, .string ⟨(clF t word).2.toArray⟩]) ∧ Below w.heap.size w w' :=
  cutLine_any ⟨t.toArray⟩ ⟨word.toArray⟩ w hg (by rw [sz_mk]; exact hs) (by rw [sz_mk]; exact hw)
theorem parF_all (s : ByteArray) : AllIn 0 256 (Sh.parF s) := by
  unfold Sh.parF
  split
  · rename_i h
    intro x hx
    obtain ⟨i, hi, rfl⟩ := List.mem_map.1 hx
    have hi := List.mem_range.1 hi
    unfold Sh.okS at h
    have h := List.all_eq_true.1 (Bool.and_eq_true_iff.1 h).2
    have a := h (2 * i) (List.mem_range.2 (by omega))
    have b := h (2 * i + 1) (List.mem_range.2 (by omega))
    unfold Sh.isD at a b
    have a := of_decide_eq_true a
    have b := of_decide_eq_true b
    unfold Sh.pairD Sh.valD
    split <;> split <;> omega
  · intro x hx
    rw [List.eq_of_mem_replicate hx]
    omega
theorem mk_ok {tg : List Int} {k : Int} {nm ms : ByteArray} (ig : Idt) (h1 : tg.length = 32) (h2 : AllIn 0 256 tg) (h3 : 0 ≤ k ∧ k ≤ 4) (h4 : nm.size ≤ 1048576) (h5 : ms.size ≤ 1048576) : (LbC.mk tg k nm ig ms).ok := ⟨h1, h2, by simp only; omega, by simp only; omega, by simp only; omega, by simp only; omega⟩
theorem e_le : (⟨#[]⟩ : ByteArray).size ≤ 1048576 := by decide
theorem koF_range (s : ByteArray) : 0 ≤ koF s ∧ koF s ≤ 4 := by
  unfold koF
  repeat' split
  all_goals omega
theorem parF_ok (s : ByteArray) : (Sh.parF s).length = 32 := by
  unfold Sh.parF
  split <;> simp
section
variable {w w' : World} {g : Nat} {c : LbC}
def igL (i : Idt) : List Value := [.string i.nm, .string i.em, .int .i64 i.tm, .int .i64 i.zn]
theorem LbB.setIg (h : LbB w g c) (hok : c.ok) (i : Idt) : LbB (w.setCells g 34 (igL i)) g { c with ig := i } := by
  have h1 := Sh.heap_setCells g 127 (igL i) 34 w _ h
  have h2 := setL_mid (igL i) (cellsK .u8 c.tg ++ [.int .i64 c.k, .string c.nm]) [.string c.ig.nm, .string c.ig.em, .int .i64 c.ig.tm, .int .i64 c.ig.zn] [.string c.ms] rfl
  rw [List.length_append, cellsK_length, hok.1] at h2
  have e1 : c.l = cellsK .u8 c.tg ++ [.int .i64 c.k, .string c.nm] ++ ([.string c.ig.nm, .string c.ig.em, .int .i64 c.ig.tm, .int .i64 c.ig.zn] ++ [.string c.ms]) := by
    unfold LbC.l LbC.tl
    simp
  unfold LbB
  rw [h1, e1]
  rw [show 32 + ([.int .i64 c.k, .string c.nm] : List Value).length = 34 from rfl] at h2
  rw [h2]
  unfold LbC.l LbC.tl igL
  simp
theorem rmF_len (t : List UInt8) : (rmF t).length ≤ t.length := by
  unfold rmF Lib.trimPrefix
  split
  · rw [List.length_drop]; omega
  · exact Nat.le_refl _
theorem igL_all (i : Idt) : (igL i).toArray.all (·.oneCell') = true := by
  rw [Array.all_eq_true_iff_forall_mem]
  intro x hx
  unfold igL at hx
  simp only [List.mem_toArray, List.mem_cons, List.not_mem_nil, or_false] at hx
  rcases hx with rfl | rfl | rfl | rfl <;> rfl
theorem LbC.all (c : LbC) : c.l.toArray.all (·.oneCell') = true := by
  rw [Array.all_eq_true_iff_forall_mem]
  intro x hx
  exact c.ones x (by simpa using hx)
theorem LbB.over (h : LbB w g c) (hok : c.ok) {d : LbC} (hd : d.ok) : LbB (w.setCells g 0 d.l) g d := by
  have h1 := Sh.heap_setCells g 127 d.l 0 w _ h
  have h2 := setL_mid d.l [] c.l [] (by rw [LbC.len hok, LbC.len hd])
  simp only [List.nil_append, List.append_nil, List.length_nil] at h2
  unfold LbB
  rw [h1, h2]
theorem LbB.there4 (h : LbB w g c) (hok : c.ok) : w.there g 34 4 := by
  intro j hj
  have := h.there hok 39 (Nat.le_refl _) (34 + j) (by omega)
  rwa [Nat.zero_add] at this
end


set_option maxHeartbeats 2000000 in
set_option maxRecDepth 100000 in
theorem readTag_any (t : List UInt8) (w : World) (hg : Gl w) (hs : t.length ≤ 1048576) :
    Calls Tryz.prog 125 #[.string ⟨t.toArray⟩] w fun e w' => e = .returned (.agg (rtF t).l.toArray) ∧ Below w.heap.size w w' := by
  have KG : Kept (∀ W, Below w.heap.size w W → Gl W) := ⟨fun W hW => hg.later hW⟩
  obtain ⟨w0, hw0, hB0, hE0, hE1, hsz0⟩ : ∃ w0, (w.alloc (.cells lb0.l.toArray 127)).alloc (.cells lb0.l.toArray 127) = w0 ∧ Below w.heap.size w w0 ∧ LbB w0 w.heap.size lb0 ∧ LbB w0 (w.heap.size + 1) lb0 ∧ w0.heap.size = w.heap.size + 2 := by
    refine ⟨_, rfl, ((Below.refl _ _).alloc (Nat.le_refl _) _).alloc (by simp) _, ?_, ?_, by simp⟩
    · have h0 : LbB (w.alloc (.cells lb0.l.toArray 127)) w.heap.size lb0 := heap_alloc_new w _
      exact h0.far ((Below.refl (w.heap.size + 1) _).alloc (by simp) _) (by omega)
    · have := heap_alloc_new (w.alloc (.cells lb0.l.toArray 127)) (.cells lb0.l.toArray 127)
      rwa [show (w.alloc (.cells lb0.l.toArray 127)).heap.size = w.heap.size + 1 by simp] at this
  have KB0 := Kept.mk hB0
  have KE0 := Kept.mk hE0
  have KE1 := Kept.mk hE1
  have Ks0 : Kept (w.heap.size + 2 ≤ w0.heap.size) := ⟨by omega⟩
  have K1 := Kept.mk (cutLine_l t wO w0 (KG.out w0 hB0) hs (by decide))
  have hl1 := clF_len t wO
  have KF : Kept (rtF t = ⟨Sh.parF ⟨(clF t wO).1.toArray⟩, koF ⟨(clF (clF t wO).2 wT).1.toArray⟩, ⟨(clF (clF (clF t wO).2 wT).2 wG).1.toArray⟩,
    (prsF ⟨(clF (clF (clF (clF t wO).2 wT).2 wG).2 wR).1.toArray⟩).1, ⟨(rmF (clF (clF (clF (clF t wO).2 wT).2 wG).2 wR).2).toArray⟩⟩) := ⟨rfl⟩
  generalize rtF t = RT at *
  generalize (clF t wO).1 = A1 at *
  generalize (clF t wO).2 = T1 at *
  have KT1 : Kept (T1.length ≤ 1048576) := ⟨by omega⟩
  clear hg hB0 hE0 hE1 hl1 hsz0
  go_enter Tryz.func125, Tryz.ntmps125
  go_upto_region 2 with fail
  generalize hOb : Obj.cells (_ : Array Value) 127 = Ob
  have hOb2 : Ob = Obj.cells lb0.l.toArray 127 := by subst hOb; rfl
  subst hOb2
  clear hOb
  rw [hw0]
  clear hw0
  go_wp2_with fail
  refine Calls.mono K1.out (fun e w1 hp => ?_)
  obtain ⟨rfl, hb1⟩ := hp
  have KB1 := Kept.mk (KB0.out.trans (hb1.mono KB0.out.size))
  have hE0' := KE0.out.far hb1 (by have := Ks0.out; omega)
  have hE1' := KE1.out.far hb1 (by have := Ks0.out; omega)
  have Ks1 : Kept (w.heap.size + 2 ≤ w1.heap.size) := ⟨Nat.le_trans Ks0.out hb1.size⟩
  have K2 := Kept.mk (Sh.parse_any ⟨A1.toArray⟩ w1)
  have hid := parF_ok ⟨A1.toArray⟩
  have hall := parF_all ⟨A1.toArray⟩
  generalize Sh.parF ⟨A1.toArray⟩ = IDS at *
  generalize Sh.parE ⟨A1.toArray⟩ = PE at *
  have KE0 := Kept.mk hE0'
  have KE1 := Kept.mk hE1'
  clear hb1 K1 hE0' hE1'
  go_wp2_with fail
  refine Calls.mono K2.out (fun e w2 hp => ?_)
  obtain ⟨rfl, hb2⟩ := hp
  have KB2 := Kept.mk (KB1.out.trans (hb2.mono KB1.out.size))
  have hE0' := KE0.out.far hb2 (by have := Ks1.out; omega)
  have hE1' := KE1.out.far hb2 (by have := Ks1.out; omega)
  have Ks2 : Kept (w.heap.size + 2 ≤ w2.heap.size) := ⟨Nat.le_trans Ks1.out hb2.size⟩
  have KTh : Kept (w2.there (w.heap.size + 1) 0 (Sh.cellsU8 IDS).toArray.size) := ⟨hE1'.there lb0_ok _ (by rw [List.size_toArray, Sh.cellsU8_length, hid]; omega)⟩
  have KIi : Kept ((Tryz.prog.info? 31).map (·.size) = some (Sh.cellsU8 IDS).toArray.size) := ⟨by rw [List.size_toArray, Sh.cellsU8_length, hid]; kernel_rfl⟩
  have KOi : Kept ((Sh.cellsU8 IDS).toArray.all (·.oneCell') = true) := ⟨by rw [Array.all_eq_true_iff_forall_mem]; intro x hx; exact Sh.cellsU8_one _ x (by simpa using hx)⟩
  obtain ⟨w3, hw3⟩ : ∃ w3, w2.setCells (w.heap.size + 1) 0 (Sh.cellsU8 IDS) = w3 := ⟨_, rfl⟩
  have hE3 : LbB w3 (w.heap.size + 1) { lb0 with tg := IDS } := by rw [← hw3]; exact hE1'.setTg lb0_ok hid
  have hE03 : LbB w3 w.heap.size lb0 := by
    rw [← hw3]
    unfold LbB
    rw [Sh.heap_setCells_far _ _ (by omega)]
    exact hE0'
  have KB3 : Kept (Below w.heap.size w w3) := ⟨by rw [← hw3]; exact Sh.below_cells (by omega) _ _ _ _ KB2.out⟩
  have Ks3 : Kept (w.heap.size + 2 ≤ w3.heap.size) := ⟨by rw [← hw3, Sh.size_setCells]; exact Ks2.out⟩
  have KE0 := Kept.mk hE03
  have KE1 := Kept.mk hE3
  have Kw3 := Kept.mk hw3
  have K3 := Kept.mk (cutLine_l T1 wT w3 (KG.out w3 KB3.out) KT1.out (by decide))
  clear hb2 K2 hE0' hE1' hE3 hE03 hw3
  obtain ⟨CI, hCI⟩ : ∃ CI, Sh.cellsU8 IDS = CI := ⟨_, rfl⟩
  rw [hCI] at KTh KIi KOi Kw3
  rw [hCI]
  clear hCI
  go_wp2_with (first | (refine wpList_store_mid rfl 31 _ _ rfl (w.heap.size + 1) 0 CI.toArray rfl rfl KTh.out KIi.out KOi.out ?_; rw [Kw3.out]))
  have hl2 := clF_len T1 wT
  generalize (clF T1 wT).1 = A2 at *
  generalize (clF T1 wT).2 = T2 at *
  have KT2 : Kept (T2.length ≤ 1048576) := ⟨by have := KT1.out; omega⟩
  clear hl2
  have hok1 : (LbC.mk IDS 0 ⟨#[]⟩ idt0 ⟨#[]⟩).ok := mk_ok idt0 hid hall (by omega) e_le e_le
  refine Calls.mono K3.out (fun e w4 hp => ?_)
  obtain ⟨rfl, hb4⟩ := hp
  have KB4 := Kept.mk (KB3.out.trans (hb4.mono KB3.out.size))
  have hE0' := KE0.out.far hb4 (by have := Ks3.out; omega)
  have hE1' : LbB w4 (w.heap.size + 1) ⟨IDS, 0, ⟨#[]⟩, idt0, ⟨#[]⟩⟩ := KE1.out.far hb4 (by have := Ks3.out; omega)
  have Ks4 : Kept (w.heap.size + 2 ≤ w4.heap.size) := ⟨Nat.le_trans Ks3.out hb4.size⟩
  have K5 := Kept.mk (kindOf_any ⟨A2.toArray⟩ w4)
  have hkr := koF_range ⟨A2.toArray⟩
  generalize koF ⟨A2.toArray⟩ = KK at *
  have c32 := hE1'.cell hok1 0 _ rfl
  have f32 := hE1'.frozen 32
  have hE5 := hE1'.setK hok1 KK
  have hE05 := hE0'.other (g' := w.heap.size + 1) (i := 32) (by omega) (.int .i64 KK)
  have KB5 : Kept (Below w.heap.size w (w4.setCell ⟨w.heap.size + 1, 32, none⟩ (.int .i64 KK))) := ⟨KB4.out.setCell (by show w.heap.size ≤ w.heap.size + 1; omega) _⟩
  have Ks5 : Kept (w.heap.size + 2 ≤ (w4.setCell ⟨w.heap.size + 1, 32, none⟩ (.int .i64 KK)).heap.size) := ⟨by rw [World.size_setCell]; exact Ks4.out⟩
  obtain ⟨w5, hw5⟩ : ∃ w5, w4.setCell ⟨w.heap.size + 1, 32, none⟩ (.int .i64 KK) = w5 := ⟨_, rfl⟩
  rw [hw5] at hE5 hE05 KB5 Ks5
  have hok2 : (LbC.mk IDS KK ⟨#[]⟩ idt0 ⟨#[]⟩).ok := mk_ok idt0 hid hall hkr e_le e_le
  have KE0 := Kept.mk hE05
  have KE1 : Kept (LbB w5 (w.heap.size + 1) ⟨IDS, KK, ⟨#[]⟩, idt0, ⟨#[]⟩⟩) := ⟨hE5⟩
  have K6 := Kept.mk (cutLine_l T2 wG w5 (KG.out w5 KB5.out) KT2.out (by decide))
  have hl3 := clF_len T2 wG
  generalize (clF T2 wG).1 = A3 at *
  generalize (clF T2 wG).2 = T3 at *
  have KT3 : Kept (T3.length ≤ 1048576 ∧ A3.length ≤ 1048576) := ⟨by have := KT2.out; omega⟩
  clear hl3 hb4 K3 hE0' hE1' hE5 hE05
  go_wp2_with fail
  refine Calls.mono K5.out (fun e w4' hp => ?_)
  obtain ⟨rfl, hw4⟩ := hp
  have hw4 := hw4.symm
  subst hw4
  clear K5
  go_wp2_with fail
  try rw [hw5]
  clear hw5 c32 f32
  refine Calls.mono K6.out (fun e w6 hp => ?_)
  obtain ⟨rfl, hb6⟩ := hp
  have KB6 := Kept.mk (KB5.out.trans (hb6.mono KB5.out.size))
  have Ks6 : Kept (w.heap.size + 2 ≤ w6.heap.size) := ⟨Nat.le_trans Ks5.out hb6.size⟩
  have KE0 := Kept.mk (KE0.out.far hb6 (by have := Ks5.out; omega))
  have KE1 := Kept.mk (KE1.out.far hb6 (by have := Ks5.out; omega))
  have K7 := Kept.mk (clone_any ⟨A3.toArray⟩ w6 (by rw [sz_mk]; have := KT3.out; omega))
  have hn3 : (⟨A3.toArray⟩ : ByteArray).size ≤ 1048576 := by rw [sz_mk]; exact KT3.out.2
  obtain ⟨NM, hNM⟩ : ∃ NM : ByteArray, ⟨A3.toArray⟩ = NM := ⟨_, rfl⟩
  rw [hNM] at K7 hn3 KF
  rw [hNM]
  clear hNM hb6 K6
  go_wp2_with fail
  refine Calls.mono K7.out (fun e w7 hp => ?_)
  obtain ⟨rfl, hb7⟩ := hp
  have KB7 := Kept.mk (KB6.out.trans (hb7.mono KB6.out.size))
  have hE0' := KE0.out.far hb7 (by have := Ks6.out; omega)
  have hE1' := KE1.out.far hb7 (by have := Ks6.out; omega)
  have c33 := hE1'.cell hok2 1 _ rfl
  have f33 := hE1'.frozen 33
  have hE8 := hE1'.setNm hok2 NM
  have hE08 := hE0'.other (g' := w.heap.size + 1) (i := 33) (by omega) (.string NM)
  have KB8 : Kept (Below w.heap.size w (w7.setCell ⟨w.heap.size + 1, 33, none⟩ (.string NM))) := ⟨KB7.out.setCell (by show w.heap.size ≤ w.heap.size + 1; omega) _⟩
  have Ks8 : Kept (w.heap.size + 2 ≤ (w7.setCell ⟨w.heap.size + 1, 33, none⟩ (.string NM)).heap.size) := ⟨by rw [World.size_setCell]; exact Nat.le_trans Ks6.out hb7.size⟩
  obtain ⟨w8, hw8⟩ : ∃ w8, w7.setCell ⟨w.heap.size + 1, 33, none⟩ (.string NM) = w8 := ⟨_, rfl⟩
  rw [hw8] at hE8 hE08 KB8 Ks8
  have hok3 : (LbC.mk IDS KK NM idt0 ⟨#[]⟩).ok := mk_ok idt0 hid hall hkr hn3 e_le
  have KE0 := Kept.mk hE08
  have KE1 : Kept (LbB w8 (w.heap.size + 1) ⟨IDS, KK, NM, idt0, ⟨#[]⟩⟩) := ⟨hE8⟩
  have K8 := Kept.mk (cutLine_l T3 wR w8 (KG.out w8 KB8.out) KT3.out.1 (by decide))
  have hl4 := clF_len T3 wR
  generalize (clF T3 wR).1 = A4 at *
  generalize (clF T3 wR).2 = T4 at *
  have KT4 : Kept (T4.length ≤ 1048576 ∧ A4.length ≤ 1048576) := ⟨by have := KT3.out; omega⟩
  clear hl4 hb7 K7 hE0' hE1' hE8 hE08
  go_wp2_with fail
  try rw [hw8]
  clear hw8 c33 f33
  refine Calls.mono K8.out (fun e w9 hp => ?_)
  obtain ⟨rfl, hb9⟩ := hp
  have KB9 := Kept.mk (KB8.out.trans (hb9.mono KB8.out.size))
  have Ks9 : Kept (w.heap.size + 2 ≤ w9.heap.size) := ⟨Nat.le_trans Ks8.out hb9.size⟩
  have KE0 := Kept.mk (KE0.out.far hb9 (by have := Ks8.out; omega))
  have KE1 := Kept.mk (KE1.out.far hb9 (by have := Ks8.out; omega))
  have K10 := Kept.mk (parseIdent_any ⟨A4.toArray⟩ w9 (KG.out w9 KB9.out) (by rw [sz_mk]; have := KT4.out; omega))
  generalize (prsF ⟨A4.toArray⟩).2 = PE2 at *
  generalize (prsF ⟨A4.toArray⟩).1 = ig at *
  obtain ⟨inm, iem, itm, izn⟩ := ig
  unfold Idt.v at K10
  simp only at K10
  clear hb9 K8
  go_wp2_with fail
  refine Calls.mono K10.out (fun e w10 hp => ?_)
  obtain ⟨rfl, hb10⟩ := hp
  have KB10 := Kept.mk (KB9.out.trans (hb10.mono KB9.out.size))
  have hE0' := KE0.out.far hb10 (by have := Ks9.out; omega)
  have hE1' := KE1.out.far hb10 (by have := Ks9.out; omega)
  obtain ⟨IG, hIG⟩ : ∃ IG, igL ⟨inm, iem, itm, izn⟩ = IG := ⟨_, rfl⟩
  have KIG := Kept.mk hIG
  have KTh : Kept (w10.there (w.heap.size + 1) 34 IG.toArray.size) := ⟨by rw [← hIG]; exact hE1'.there4 hok3⟩
  have KIi : Kept ((Tryz.prog.info? 38).map (·.size) = some IG.toArray.size) := ⟨by rw [← hIG]; kernel_rfl⟩
  have KOi : Kept (IG.toArray.all (·.oneCell') = true) := ⟨by rw [← hIG]; exact igL_all _⟩
  obtain ⟨w11, hw11⟩ : ∃ w11, w10.setCells (w.heap.size + 1) 34 IG = w11 := ⟨_, rfl⟩
  have hE11 : LbB w11 (w.heap.size + 1) ⟨IDS, KK, NM, ⟨inm, iem, itm, izn⟩, ⟨#[]⟩⟩ := by rw [← hw11, ← hIG]; exact hE1'.setIg hok3 _
  have hE011 : LbB w11 w.heap.size lb0 := by
    rw [← hw11]
    unfold LbB
    rw [Sh.heap_setCells_far _ _ (by omega)]
    exact hE0'
  have KB11 : Kept (Below w.heap.size w w11) := ⟨by rw [← hw11]; exact Sh.below_cells (by omega) _ _ _ _ KB10.out⟩
  have Ks11 : Kept (w.heap.size + 2 ≤ w11.heap.size) := ⟨by rw [← hw11, Sh.size_setCells]; exact Nat.le_trans Ks9.out hb10.size⟩
  have KE0 := Kept.mk hE011
  have KE1 := Kept.mk hE11
  have Kw11 := Kept.mk hw11
  have K12 := Kept.mk (readMessage_any ⟨T4.toArray⟩ w11 (by rw [sz_mk]; exact KT4.out.1))
  have hIG' : Value.agg #[.string inm, .string iem, .int .i64 itm, .int .i64 izn] = Value.agg IG.toArray := by rw [← hIG]; rfl
  clear hb10 K10 hE0' hE1' hE11 hE011 hIG hw11
  rw [hIG']
  clear hIG'
  go_wp2_with (first | (refine wpList_store_mid rfl 38 _ _ rfl (w.heap.size + 1) 34 IG.toArray rfl rfl KTh.out KIi.out KOi.out ?_; rw [Kw11.out]))
  refine Calls.mono K12.out (fun e w12 hp => ?_)
  obtain ⟨rfl, hb12⟩ := hp
  have KB12 := Kept.mk (KB11.out.trans (hb12.mono KB11.out.size))
  have hE0' := KE0.out.far hb12 (by have := Ks11.out; omega)
  have hE1' := KE1.out.far hb12 (by have := Ks11.out; omega)
  have hok4 : (LbC.mk IDS KK NM ⟨inm, iem, itm, izn⟩ ⟨#[]⟩).ok := mk_ok _ hid hall hkr hn3 e_le
  have c38 := hE1'.cell hok4 6 _ rfl
  have f38 := hE1'.frozen 38
  have hm4 : (⟨(rmF T4).toArray⟩ : ByteArray).size ≤ 1048576 := by rw [sz_mk]; exact Nat.le_trans (rmF_len T4) KT4.out.1
  obtain ⟨MS, hMS⟩ : ∃ MS : ByteArray, ⟨(rmF T4).toArray⟩ = MS := ⟨_, rfl⟩
  rw [hMS] at hm4 KF
  try rw [hMS]
  have hE13 := hE1'.setMs hok4 MS
  have hE013 := hE0'.other (g' := w.heap.size + 1) (i := 38) (by omega) (.string MS)
  have KB13 : Kept (Below w.heap.size w (w12.setCell ⟨w.heap.size + 1, 38, none⟩ (.string MS))) := ⟨KB12.out.setCell (by show w.heap.size ≤ w.heap.size + 1; omega) _⟩
  obtain ⟨w13, hw13⟩ : ∃ w13, w12.setCell ⟨w.heap.size + 1, 38, none⟩ (.string MS) = w13 := ⟨_, rfl⟩
  rw [hw13] at hE13 hE013 KB13
  have hok5 : RT.ok := by rw [KF.out]; exact mk_ok _ hid hall hkr hn3 hm4
  have hE13 : LbB w13 (w.heap.size + 1) RT := by rw [KF.out]; exact hE13
  have KRg := Kept.mk hE13.range
  have KIl : Kept ((Tryz.prog.info? 127).map (·.size) = some RT.l.length) := ⟨by rw [LbC.len hok5]; kernel_rfl⟩
  have KIl2 : Kept ((Tryz.prog.info? 127).map (·.size) = some RT.l.toArray.size) := ⟨by rw [List.size_toArray]; exact KIl.out⟩
  have KTh0 : Kept (w13.there w.heap.size 0 RT.l.toArray.size) := ⟨hE013.there lb0_ok _ (by rw [List.size_toArray, LbC.len hok5]; exact Nat.le_refl _)⟩
  have KOl := Kept.mk RT.all
  have KFin := Kept.mk (hE013.over lb0_ok hok5)
  unfold LbB at KFin
  have KBf := Kept.mk (Sh.below_cells (b := w.heap.size) (Nat.le_refl _) RT.l 0 w w13 KB13.out)
  clear hb12 K12 hE0' hE1' hE13 hE013 hok1 hok2 hok3 hok4 hok5 hm4 hMS KE0 KE1 KF
  obtain ⟨RL, hRL⟩ : ∃ RL, RT.l = RL := ⟨_, rfl⟩
  have KRL := Kept.mk hRL
  rw [hRL] at KRg KIl KIl2 KTh0 KOl KFin KBf
  clear hRL
  go_wp2_with (first | (refine wpList_load_mid rfl 127 _ rfl (w.heap.size + 1) 0 rfl RL _ KRg.out Tryz.underlying127 rfl KIl.out ?_) | (refine wpList_store_mid rfl 127 _ _ rfl w.heap.size 0 RL.toArray rfl rfl KTh0.out KIl2.out KOl.out ?_) | (rw [hw13]))
  refine bodyPost_ret (v := .agg RL.toArray) (results_cell_row (p := 2) (ty := 127) Tryz.results125 _ _ w.heap.size 127 _ (0, 0) _ rfl KFin.out Tryz.underlying127 rfl KIl2.out) rfl ⟨by rw [KRL.out], KBf.out⟩
end Go.Proofs.YtkbalngddlhlpaaGreatDoor
