/-
  Walks: PutTag.
-/
import Derived.Test.YtkbalngddlhlpaaGreatDoorL4
import Derived.Test.YtkbalngddlhlpaaGreatDoorShH2
import Derived.Test.YtkbalngddlhlpaaGreatDoorO9
import Derived.Test.YtkbalngddlhlpaaGreatDoorN21
import Derived.Test.YtkbalngddlhlpaaGreatDoorO10B
import Derived.Test.YtkbalngddlhlpaaGreatDoorO14
namespace Go.Proofs.YtkbalngddlhlpaaGreatDoor
open Go.RowKit

theorem idF_facts {i : Idt} (h : idF i = true) : 0 ≤ i.tm ∧ i.tm ≤ 1099511627776 ∧ -1439 ≤ i.zn ∧ i.zn ≤ 1439 ∧ i.nm.size ≤ 100 ∧ i.em.size ≤ 100 := by
  unfold idF whoF at h
  simp only [Bool.and_eq_true, decide_eq_true_eq] at h
  omega
theorem putB_small {i : Idt} (h : idF i = true) : (putB i).size ≤ 300 := by
  have hb := idF_facts h
  have hTl : (⟨(Lib.itoa i.tm).toArray⟩ : ByteArray).size ≤ 20 := by
    show (Lib.itoa i.tm).toArray.size ≤ 20
    rw [List.size_toArray]
    unfold Lib.itoa
    rw [if_neg (by omega), Lib.decDigits_length]
    exact Nat.le_trans (ndig_le i.tm.toNat 13 (by omega) (by have : (10 ^ 13 : Nat) = 10000000000000 := by decide
                                                             omega)) (by omega)
  have hZl : (zoneB i.zn).size ≤ 10 := by
    unfold zoneB
    rw [size_cat, ByteArray.size_extract, zdB_size (by omega)]
    split
    · show 1 + _ ≤ 10; omega
    · show 1 + _ ≤ 10; omega
  have l2 : (⟨#[32, 60]⟩ : ByteArray).size = 2 := rfl
  have l3 : (⟨#[62, 32]⟩ : ByteArray).size = 2 := rfl
  have l4 : (⟨#[32]⟩ : ByteArray).size = 1 := rfl
  unfold putB
  simp only [size_cat]
  omega
theorem strL_back {l : List Int} (h : ∀ c ∈ l, 0 ≤ c ∧ c < 256) : strL (strOfNums l) = l := by
  unfold strL
  rw [strOfNums_data]
  induction l with
  | nil => rfl
  | cons c l ih =>
    have hc := h c List.mem_cons_self
    have := ih (fun x hx => h x (List.mem_cons_of_mem _ hx))
    simp only [List.map_cons, List.cons.injEq]
    refine ⟨?_, this⟩
    have e : (UInt8.ofNat c.toNat).toNat = c.toNat := by rw [UInt8.toNat_ofNat']; omega
    omega
def tgL (c : LbC) : List Int := [111, 98, 106, 101, 99, 116] ++ [32] ++ Sh.hexF c.tg ++ [10] ++ [116, 121, 112, 101] ++ [32] ++ strL (wdF c.k) ++ [10] ++ [116, 97, 103] ++ [32] ++ strL c.nm ++ [10] ++ [116, 97, 103, 103, 101, 114] ++ [32] ++ strL (putB c.ig) ++ [10] ++ [10] ++ strL c.ms
def ptgL (c : LbC) : List Int := if teF c = 0 then tgL c else []
theorem teF_ok {c : LbC} (h : teF c = 0) : c.ms.size ≤ 65536 ∧ tnF c.nm = true ∧ idF c.ig = true ∧ hzF c.ms = false ∧ isK c.k = true := by
  unfold teF at h
  by_cases h1 : 65536 < c.ms.size
  · rw [if_pos h1] at h; omega
  · rw [if_neg h1] at h
    by_cases h2 : tnF c.nm = false ∨ idF c.ig = false
    · rw [if_pos h2] at h; omega
    · rw [if_neg h2] at h
      by_cases h3 : hzF c.ms = true
      · rw [if_pos h3] at h; omega
      · rw [if_neg h3] at h
        by_cases h4 : isK c.k = false
        · rw [if_pos h4] at h; omega
        · refine ⟨by omega, ?_, ?_, by simpa using h3, by simpa using h4⟩
          · cases hq : tnF c.nm with
            | true => rfl
            | false => exact absurd (.inl hq) h2
          · cases hq : idF c.ig with
            | true => rfl
            | false => exact absurd (.inr hq) h2
theorem tnF_size {s : ByteArray} (h : tnF s = true) : s.size ≤ 100 := by
  unfold tnF at h
  simp only [Bool.and_eq_true, decide_eq_true_eq] at h
  exact h.1.2
set_option maxHeartbeats 1000000 in
set_option maxRecDepth 100000 in
theorem putTag_any (c : LbC) (w : World) (hg : Gl w) (hok : c.ok) : Calls Tryz.prog 126 #[.agg c.l.toArray] w fun e w' => ∃ v', e = .returned (.tuple #[v', .int .i64 (teF c)]) ∧ Own .u8 5 w' w.heap.size v' (ptgL c) ∧ Below w.heap.size w w' := by
  obtain ⟨w1, hw1, hB1, hL1⟩ := LbC.box w c
  have KB1 := Kept.mk hB1
  have KL1 := Kept.mk hL1
  have Klt : Kept (w.heap.size < w1.heap.size) := ⟨hL1.lt⟩
  have KG : Kept (∀ W, Below w1.heap.size w1 W → Gl W) := ⟨fun W hW => (hg.later hB1).later hW⟩
  have KC : Kept (∀ W, Below w1.heap.size w1 W → W.cell? ⟨w.heap.size, 32, none⟩ = some (.int .i64 c.k) ∧ W.cell? ⟨w.heap.size, 33, none⟩ = some (.string c.nm) ∧ W.cell? ⟨w.heap.size, 34, none⟩ = some (.string c.ig.nm) ∧ W.cell? ⟨w.heap.size, 35, none⟩ = some (.string c.ig.em) ∧ W.cell? ⟨w.heap.size, 36, none⟩ = some (.int .i64 c.ig.tm) ∧ W.cell? ⟨w.heap.size, 37, none⟩ = some (.int .i64 c.ig.zn) ∧ W.cell? ⟨w.heap.size, 38, none⟩ = some (.string c.ms)) := ⟨fun W hW => by
    have h := hL1.far hW hL1.lt
    exact ⟨h.cell hok 0 _ rfl, h.cell hok 1 _ rfl, h.cell hok 2 _ rfl, h.cell hok 3 _ rfl, h.cell hok 4 _ rfl, h.cell hok 5 _ rfl, h.cell hok 6 _ rfl⟩⟩
  have KRg : Kept (w1.rangeAt w.heap.size 0 c.l) := ⟨hL1.range⟩
  have KRi : Kept (∀ W, Below w1.heap.size w1 W → W.rangeAt w.heap.size 0 (cellsK .u8 c.tg)) := ⟨fun W hW j u hu => by
    have h := (hL1.far hW hL1.lt).range j u (by
      unfold LbC.l
      rw [List.getElem?_append_left (by
        rcases Nat.lt_or_ge j (cellsK .u8 c.tg).length with h' | h'
        · exact h'
        · rw [List.getElem?_eq_none h'] at hu; cases hu)]
      exact hu)
    exact h⟩
  have KIl : Kept ((Tryz.prog.info? 127).map (·.size) = some c.l.length) := ⟨by rw [LbC.len hok]; kernel_rfl⟩
  have KIi : Kept ((Tryz.prog.info? 31).map (·.size) = some (cellsK .u8 c.tg).length) := ⟨by rw [cellsK_length, hok.1]; kernel_rfl⟩
  have KT := Kept.mk (tagError_any c w1 hok)
  have KPI : Kept (∀ W, Below w1.heap.size w1 W → Calls Tryz.prog 32 #[c.ig.v] W fun e w' => e = .returned (.tuple #[.string (putS c.ig), .int .i64 (putE c.ig)]) ∧ Below W.heap.size W w') := ⟨fun W hW => putIdent_any c.ig W (KG.out W hW)⟩
  have KH : Kept (∀ W, Calls Tryz.prog 34 #[.agg (cellsK .u8 c.tg).toArray] W fun e w' => e = .returned (.string (strOfNums (Sh.hexF c.tg))) ∧ Below W.heap.size W w') := ⟨fun W => Sh.hex_any c.tg W hok.1 (fun x hx => hok.2.1 x hx)⟩
  have KW : Kept (∀ W, Calls Tryz.prog 25 #[.int .i64 c.k] W fun e w' => e = .returned (.string (wdF c.k)) ∧ w' = W) := ⟨fun W => word_any c.k W⟩
  unfold Idt.v at KPI
  have KTF : Kept (ptgL c = if teF c = 0 then tgL c else []) := ⟨rfl⟩
  have KOk := Kept.mk (teF_ok (c := c))
  have KPsz : Kept (idF c.ig = true → putS c.ig = putB c.ig ∧ (putB c.ig).size ≤ 300) := ⟨fun h => ⟨by unfold putS; rw [if_pos h], putB_small h⟩⟩
  have KTL : Kept (tgL c = [111, 98, 106, 101, 99, 116] ++ [32] ++ Sh.hexF c.tg ++ [10] ++ [116, 121, 112, 101] ++ [32] ++ strL (wdF c.k) ++ [10] ++ [116, 97, 103] ++ [32] ++ strL c.nm ++ [10] ++ [116, 97, 103, 103, 101, 114] ++ [32] ++ strL (putB c.ig) ++ [10] ++ [10] ++ strL c.ms) := ⟨rfl⟩
  have KHx : Kept (strL (strOfNums (Sh.hexF c.tg)) = Sh.hexF c.tg ∧ (strOfNums (Sh.hexF c.tg)).size = 64) := ⟨strL_back (fun x hx => Sh.hexF_allB (fun y hy => hok.2.1 y hy) x hx), by rw [strOfNums_size, Sh.hexF_length, hok.1]⟩
  have KWs := Kept.mk (wd_size c.k)
  have Knm : Kept (tnF c.nm = true → c.nm.size ≤ 100) := ⟨tnF_size⟩
  generalize teF c = TE at *
  generalize ptgL c = PL at *
  generalize tgL c = TL at *
  generalize putE c.ig = PE at *
  obtain ⟨c32, c33, c34, c35, c36, c37, c38⟩ := KC.out w1 (Below.refl _ _)
  obtain ⟨tg, k, nm, ig, ms⟩ := c
  simp only at *
  generalize (LbC.mk tg k nm ig ms).l = CL at *
  generalize Sh.hexF tg = HL at *
  generalize strOfNums HL = HX at *
  generalize wdF k = WD at *
  generalize cellsK .u8 tg = TG at *
  clear hB1 hL1 hok hg KL1
  by_cases hE : TE = 0
  · obtain ⟨hms, htn, hid, -, -⟩ := KOk.out hE
    obtain ⟨hps, hpb⟩ := KPsz.out hid
    have Ksz : Kept (nm.size ≤ 100 ∧ ms.size ≤ 65536 ∧ (putB ig).size ≤ 300 ∧ WD.size ≤ 6 ∧ HX.size = 64) := ⟨Knm.out htn, hms, hpb, KWs.out, KHx.out.2⟩
    rw [hps] at KPI
    rw [if_pos hE, KTL.out] at KTF
    subst hE
    clear hms htn hid hps hpb KOk KPsz Knm KWs KTL
    generalize putB ig = PB at *
    obtain ⟨inm, iem, itm, izn⟩ := ig
    simp only at *
    have KSL : Kept ((strL nm).length = nm.size ∧ (strL PB).length = PB.size ∧ (strL WD).length = WD.size ∧ HL.length = 64) := ⟨strL_length nm, strL_length PB, strL_length WD, by rw [← KHx.out.1, strL_length]; exact KHx.out.2⟩
    go_enter Tryz.func126, Tryz.ntmps126
    go_wp2_with (first | (refine wpList_load_mid rfl 127 _ rfl w.heap.size 0 rfl CL _ KRg.out Tryz.underlying127 rfl KIl.out ?_))
    refine Calls.mono KT.out (fun e w2 hp => ?_)
    obtain ⟨rfl, hb2⟩ := hp
    have KB2 := Kept.mk hb2
    clear c32 c33 c34 c35 c36 c37 c38 hb2 KT
    obtain ⟨c32, c33, c34, c35, c36, c37, c38⟩ := KC.out w2 KB2.out
    go_wp2_with fail
    refine Calls.mono (KPI.out w2 KB2.out) (fun e w3 hp => ?_)
    obtain ⟨rfl, hb3⟩ := hp
    have KB3 := Kept.mk (KB2.out.trans (hb3.mono KB2.out.size))
    clear c32 c33 c34 c35 c36 c37 c38 hb3 KPI
    have KRi3 := Kept.mk (KRi.out w3 KB3.out)
    go_wp2_with (first | (refine wpList_load_mid rfl 31 _ rfl w.heap.size 0 rfl TG _ KRi3.out Tryz.underlying31 rfl KIi.out ?_))
    refine Calls.mono (KH.out w3) (fun e w4 hp => ?_)
    obtain ⟨rfl, hb4⟩ := hp
    have KB4 := Kept.mk (KB3.out.trans (hb4.mono KB3.out.size))
    clear hb4 KH KRi3
    have K5 := Kept.mk (putLine_any (.slice none 0 0) [] ⟨#[111, 98, 106, 101, 99, 116]⟩ HX w1.heap.size w4 KB4.out.size (Own.nil _ _ _ _) (by have : (⟨#[111, 98, 106, 101, 99, 116]⟩ : ByteArray).size = 6 := rfl; have := Ksz.out; simp only [List.length_nil]; omega))
    rw [KHx.out.1] at K5
    obtain ⟨L5, hL5⟩ : ∃ L5, [] ++ strL ⟨#[111, 98, 106, 101, 99, 116]⟩ ++ [32] ++ HL ++ [10] = L5 := ⟨_, rfl⟩
    rw [hL5] at K5
    have Kn5 : Kept (L5.length = 72) := ⟨by rw [← hL5]; have : (strL ⟨#[111, 98, 106, 101, 99, 116]⟩).length = 6 := rfl; have := KSL.out; simp only [List.length_append, List.length_singleton, List.length_nil]; omega⟩
    go_wp2_with fail
    refine Calls.mono K5.out (fun e w5 hp => ?_)
    obtain ⟨v5, rfl, ho5, hb5⟩ := hp
    have KB5 := Kept.mk (KB4.out.trans hb5)
    obtain ⟨c32, c33, c34, c35, c36, c37, c38⟩ := KC.out w5 KB5.out
    have K6 := Kept.mk (putLine_any v5 L5 ⟨#[116, 121, 112, 101]⟩ WD w1.heap.size w5 KB5.out.size ho5 (by have : (⟨#[116, 121, 112, 101]⟩ : ByteArray).size = 4 := rfl; have := Ksz.out; have := Kn5.out; omega))
    obtain ⟨L6, hL6⟩ : ∃ L6, L5 ++ strL ⟨#[116, 121, 112, 101]⟩ ++ [32] ++ strL WD ++ [10] = L6 := ⟨_, rfl⟩
    rw [hL6] at K6
    have hn6 : L6.length ≤ 90 := by rw [← hL6]; have : (strL ⟨#[116, 121, 112, 101]⟩).length = 4 := rfl; have := Kn5.out; have := KSL.out; have := Ksz.out; simp only [List.length_append, List.length_singleton]; omega
    clear ho5 hb5 K5
    go_wp2_with fail
    refine Calls.mono (KW.out w5) (fun e w5' hp => ?_)
    obtain ⟨rfl, hw5⟩ := hp
    have hw5 := hw5.symm
    subst hw5
    clear KW
    go_wp2_with fail
    refine Calls.mono K6.out (fun e w6 hp => ?_)
    obtain ⟨v6, rfl, ho6, hb6⟩ := hp
    have KB6 := Kept.mk (KB5.out.trans hb6)
    clear c32 c33 c34 c35 c36 c37 c38
    obtain ⟨c32, c33, c34, c35, c36, c37, c38⟩ := KC.out w6 KB6.out
    have K7 := Kept.mk (putLine_any v6 L6 ⟨#[116, 97, 103]⟩ nm w1.heap.size w6 KB6.out.size ho6 (by have : (⟨#[116, 97, 103]⟩ : ByteArray).size = 3 := rfl; have := Ksz.out; omega))
    obtain ⟨L7, hL7⟩ : ∃ L7, L6 ++ strL ⟨#[116, 97, 103]⟩ ++ [32] ++ strL nm ++ [10] = L7 := ⟨_, rfl⟩
    rw [hL7] at K7
    have hn7 : L7.length ≤ 200 := by rw [← hL7]; have : (strL ⟨#[116, 97, 103]⟩).length = 3 := rfl; have := KSL.out; have := Ksz.out; simp only [List.length_append, List.length_singleton]; omega
    clear ho6 hb6 K6
    go_wp2_with fail
    refine Calls.mono K7.out (fun e w7 hp => ?_)
    obtain ⟨v7, rfl, ho7, hb7⟩ := hp
    have KB7 := Kept.mk (KB6.out.trans hb7)
    clear c32 c33 c34 c35 c36 c37 c38
    have K8 := Kept.mk (putLine_any v7 L7 ⟨#[116, 97, 103, 103, 101, 114]⟩ PB w1.heap.size w7 KB7.out.size ho7 (by have : (⟨#[116, 97, 103, 103, 101, 114]⟩ : ByteArray).size = 6 := rfl; have := Ksz.out; omega))
    obtain ⟨L8, hL8⟩ : ∃ L8, L7 ++ strL ⟨#[116, 97, 103, 103, 101, 114]⟩ ++ [32] ++ strL PB ++ [10] = L8 := ⟨_, rfl⟩
    rw [hL8] at K8
    have hn8 : L8.length ≤ 600 := by rw [← hL8]; have : (strL ⟨#[116, 97, 103, 103, 101, 114]⟩).length = 6 := rfl; have := KSL.out; have := Ksz.out; simp only [List.length_append, List.length_singleton]; omega
    clear ho7 hb7 K7
    go_wp2_with fail
    refine Calls.mono K8.out (fun e w8 hp => ?_)
    obtain ⟨v8, rfl, ho8, hb8⟩ := hp
    have KB8 := Kept.mk (KB7.out.trans hb8)
    obtain ⟨c32, c33, c34, c35, c36, c37, c38⟩ := KC.out w8 KB8.out
    have K9 := Kept.mk (putMessage_any v8 L8 ms w1.heap.size w8 KB8.out.size ho8 (by have := Ksz.out; omega))
    clear ho8 hb8 K8
    have KPL : Kept (PL = L8 ++ [10] ++ strL ms) := ⟨by
      rw [KTF.out, ← hL8, ← hL7, ← hL6, ← hL5]
      rfl⟩
    clear hL5 hL6 hL7 hL8
    go_wp2_with fail
    refine Calls.mono K9.out (fun e w9 hp => ?_)
    obtain ⟨v9, rfl, ho9, hb9⟩ := hp
    have KO9 := Kept.mk ho9
    have KB9 := Kept.mk (KB1.out.trans ((KB8.out.trans hb9).mono KB1.out.size))
    clear ho9 hb9 K9 c32 c33 c34 c35 c36 c37 c38
    go_wp2
    go_ret2
    exact ⟨_, rfl, by rw [KPL.out]; exact KO9.out.mono (Nat.le_of_lt Klt.out), KB9.out⟩
  · have hEi : ¬ TE = 0 := hE
    rw [if_neg hE] at KTF
    clear KOk KPsz Knm c32 c33 c34 c35 c36 c37 c38
    go_enter Tryz.func126, Tryz.ntmps126
    go_wp2_with (first | (refine wpList_load_mid rfl 127 _ rfl w.heap.size 0 rfl CL _ KRg.out Tryz.underlying127 rfl KIl.out ?_))
    refine Calls.mono KT.out (fun e w2 hp => ?_)
    obtain ⟨rfl, hb2⟩ := hp
    have KB2 := Kept.mk (KB1.out.trans (hb2.mono KB1.out.size))
    clear hb2 KT
    go_wp2
    go_ret2
    exact ⟨_, rfl, by rw [KTF.out]; exact Own.nil _ _ _ _, KB2.out⟩




def LnAt (t word rest behind : List UInt8) : Prop := t = word ++ 32 :: (rest ++ 10 :: behind) ∧ (10 : UInt8) ∉ rest


theorem setL_mid : ∀ (vs pre old suf : List Value), old.length = vs.length → Sh.setL (pre ++ (old ++ suf)).toArray pre.length vs = (pre ++ (vs ++ suf)).toArray
  | [], pre, old, suf, h => by
    have : old = [] := List.eq_nil_of_length_eq_zero (by simpa using h)
    subst this
    rfl
  | v :: vs, pre, old, suf, h => by
    cases old with
    | nil => simp at h
    | cons o old =>
      have ih := setL_mid vs (pre ++ [v]) old suf (by simpa using h)
      have e : (pre ++ (o :: old ++ suf)).toArray.setIfInBounds pre.length v = (pre ++ [v] ++ (old ++ suf)).toArray := by
        rw [List.setIfInBounds_toArray]
        congr 1
        rw [List.set_append_right _ _ (Nat.le_refl _), Nat.sub_self]
        simp
      rw [Sh.setL, e]
      rw [List.length_append, List.length_singleton] at ih
      rw [ih]
      simp
section
variable {w w' : World} {g : Nat} {c : LbC}
theorem LbB.setTg (h : LbB w g c) (hok : c.ok) {ids : List Int} (hi : ids.length = 32) : LbB (w.setCells g 0 (cellsK .u8 ids)) g { c with tg := ids } := by
  have h1 := Sh.heap_setCells g 127 (cellsK .u8 ids) 0 w _ h
  have h2 := setL_mid (cellsK .u8 ids) [] (cellsK .u8 c.tg) c.tl (by rw [cellsK_length, cellsK_length, hok.1, hi])
  unfold LbB
  rw [h1]
  unfold LbC.l
  rw [List.nil_append, List.length_nil] at h2
  rw [h2]
  rfl
theorem LbB.setT (h : LbB w g c) (hok : c.ok) (j : Nat) (v : Value) (hj : j < 7) : (w.setCell ⟨g, 32 + j, none⟩ v).heap[g]? = some (.cells (cellsK .u8 c.tg ++ c.tl.set j v).toArray 127) := by
  rw [heap_setCell_same w g (32 + j) _ 127 v h]
  congr 2
  unfold LbC.l
  rw [List.setIfInBounds_toArray, List.set_append_right _ _ (by rw [cellsK_length, hok.1]; omega), cellsK_length, hok.1, Nat.add_sub_cancel_left]
theorem LbB.setK (h : LbB w g c) (hok : c.ok) (x : Int) : LbB (w.setCell ⟨g, 32, none⟩ (.int .i64 x)) g { c with k := x } := h.setT hok 0 _ (by omega)
theorem LbB.setNm (h : LbB w g c) (hok : c.ok) (x : ByteArray) : LbB (w.setCell ⟨g, 33, none⟩ (.string x)) g { c with nm := x } := h.setT hok 1 _ (by omega)
theorem LbB.setMs (h : LbB w g c) (hok : c.ok) (x : ByteArray) : LbB (w.setCell ⟨g, 38, none⟩ (.string x)) g { c with ms := x } := h.setT hok 6 _ (by omega)
theorem LbB.frozen (h : LbB w g c) (i : Nat) : w.frozen? ⟨g, i, none⟩ = false := by
  unfold LbB at h
  simp [World.frozen?, h]
theorem LbB.other {g' i : Nat} (h : LbB w g c) (hne : g ≠ g') (u : Value) : LbB (w.setCell ⟨g', i, none⟩ u) g c := by
  unfold LbB at h ⊢
  rw [Below.heap_setCell _ _ _ _ hne]
  exact h
theorem LbB.there (h : LbB w g c) (hok : c.ok) (n : Nat) (hn : n ≤ 39) : w.there g 0 n := by
  intro j hj
  rw [Nat.zero_add]
  have hl := LbC.len hok
  have := h.range j (c.l[j]'(by omega)) (by rw [List.getElem?_eq_getElem])
  rw [Nat.zero_add] at this
  exact ⟨by rw [this]; rfl, h.frozen j⟩
end
def z32N : List Int := List.replicate 32 0
def lb0 : LbC := ⟨z32N, 0, ⟨#[]⟩, idt0, ⟨#[]⟩⟩
theorem lb0_ok : lb0.ok := ⟨by simp [lb0, z32N], fun x hx => by rw [List.eq_of_mem_replicate hx]; omega, by decide, by decide, by decide, by decide⟩
end Go.Proofs.YtkbalngddlhlpaaGreatDoor
