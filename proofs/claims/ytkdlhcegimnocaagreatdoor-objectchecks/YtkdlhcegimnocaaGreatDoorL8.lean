/-
  Walks: PutTag.
-/
import Derived.Test.YtkdlhcegimnocaaGreatDoorL4
import Derived.Test.YtkdlhcegimnocaaGreatDoorShH2
import Derived.Test.YtkdlhcegimnocaaGreatDoorO9
import Derived.Test.YtkdlhcegimnocaaGreatDoorN21
import Derived.Test.YtkdlhcegimnocaaGreatDoorO10B
import Derived.Test.YtkdlhcegimnocaaGreatDoorO15
namespace Go.Proofs.YtkdlhcegimnocaaGreatDoor
open Go.RowKit

theorem idF_facts {i : Idt} (h : idF i = true) : 0 ≤ i.tm ∧ i.tm ≤ 1099511627776 ∧ -1439 ≤ i.zn ∧ i.zn ≤ 1439 ∧ i.nm.size ≤ 100 ∧ i.em.size ≤ 100 := by
  unfold idF whoF at h
  simp only [Bool.and_eq_true, decide_eq_true_eq] at h
  omega
theorem putB_small {i : Idt} (h : idF i = true) : (putB i).size ≤ 300 := by
  have hb := idF_facts h
  have hTl : (⟨(Lib.itoa i.tm).toArray⟩ : ByteArray).size ≤ 20 := by
    show (Lib.itoa i.tm).toArray.size ≤ 20
    rw [List.size_toArray]
    unfold Lib.itoa
    rw [if_neg (by omega), Lib.decDigits_length]
    exact Nat.le_trans (ndig_le i.tm.toNat 13 (by omega) (by have : (10 ^ 13 : Nat) = 10000000000000 := by decide
                                                             omega)) (by omega)
  have hZl : (zoneB i.zn).size ≤ 10 := by
    unfold zoneB
    rw [size_cat, ByteArray.size_extract, zdB_size (by omega)]
    split
    · show 1 + _ ≤ 10; omega
    · show 1 + _ ≤ 10; omega
  have l2 : (⟨#[32, 60]⟩ : ByteArray).size = 2 := rfl
  have l3 : (⟨#[62, 32]⟩ : ByteArray).size = 2 := rfl
  have l4 : (⟨#[32]⟩ : ByteArray).size = 1 := rfl
  unfold putB
  simp only [size_cat]
  omega
theorem strL_back {l : List Int} (h : ∀ c ∈ l, 0 ≤ c ∧ c < 256) : strL (strOfNums l) = l := by
  unfold strL
  rw [strOfNums_data]
  induction l with
  | nil => rfl
  | cons c l ih =>
    have hc := h c List.mem_cons_self
    have := ih (fun x hx => h x (List.mem_cons_of_mem _ hx))
    simp only [List.map_cons, List.cons.injEq]
    refine ⟨?_, this⟩
    have e : (UInt8.ofNat c.toNat).toNat = c.toNat := by rw [UInt8.toNat_ofNat']; omega
    omega
def tgL (c : LbC) : List Int := [111, 98, 106, 101, 99, 116] ++ [32] ++ Sh.hexF c.tg ++ [10] ++ [116, 121, 112, 101] ++ [32] ++ strL (wdF c.k) ++ [10] ++ [116, 97, 103] ++ [32] ++ strL c.nm ++ [10] ++ [116, 97, 103, 103, 101, 114] ++ [32] ++ strL (putB c.ig) ++ [10] ++ [10] ++ strL c.ms
def ptgL (c : LbC) : List Int := if teF c = 0 then tgL c else []
theorem teF_ok {c : LbC} (h : teF c = 0) : c.ms.size ≤ 65536 ∧ tnF c.nm = true ∧ idF c.ig = true ∧ hzF c.ms = false ∧ isK c.k = true := by
  unfold teF at h
  by_cases h1 : 65536 < c.ms.size
  · rw [if_pos h1] at h; omega
  · rw [if_neg h1] at h
    by_cases h2 : tnF c.nm = false ∨ idF c.ig = false
    · rw [if_pos h2] at h; omega
    · rw [if_neg h2] at h
      by_cases h3 : hzF c.ms = true
      · rw [if_pos h3] at h; omega
      · rw [if_neg h3] at h
        by_cases h4 : isK c.k = false
        · rw [if_pos h4] at h; omega
        · refine ⟨by omega, ?_, ?_, by simpa using h3, by simpa using h4⟩
          · cases hq : tnF c.nm with
            | true => rfl
            | false => exact absurd (.inl hq) h2
          · cases hq : idF c.ig with
            | true => rfl
            | false => exact absurd (.inr hq) h2
theorem tnF_size {s : ByteArray} (h : tnF s = true) : s.size ≤ 100 := by
  unfold tnF at h
  simp only [Bool.and_eq_true, decide_eq_true_eq] at h
  exact h.1.2
set_option maxHeartbeats 1000000 in
set_option maxRecDepth 100000 in
theorem putTag_any (c : LbC) (w : World) (hg : Gl w) (hok : c.ok) : Calls Tryz.prog 65 #[.agg c.l.toArray] w fun e w' => ∃ v', e = .returned (.tuple #[v', .int .i64 (teF c)]) ∧ Own .u8 5 w' w.heap.size v' (ptgL c) ∧ Below w.heap.size w w' := by
  obtain ⟨w1, hw1, hB1, hL1⟩ := LbC.box w c
  have KB1 := Kept.mk hB1
  have KL1 := Kept.mk hL1
  have Klt : Kept (w.heap.size < w1.heap.size) := ⟨hL1.lt⟩
  have KG : Kept (∀ W, Below w1.heap.size w1 W → Gl W) := ⟨fun W hW => (hg.later hB1).later hW⟩
  have KC : Kept (∀ W, Below w1.heap.size w1 W → W.cell? ⟨w.heap.size, 32, none⟩ = some (.int .i64 c.k) ∧ W.cell? ⟨w.heap.size, 33, none⟩ = some (.string c.nm) ∧ W.cell? ⟨w.heap.size, 34, none⟩ = some (.string c.ig.nm) ∧ W.cell? ⟨w.heap.size, 35, none⟩ = some (.string c.ig.em) ∧ W.cell? ⟨w.heap.size, 36, none⟩ = some (.int .i64 c.ig.tm) ∧ W.cell? ⟨w.heap.size, 37, none⟩ = some (.int .i64 c.ig.zn) ∧ W.cell? ⟨w.heap.size, 38, none⟩ = some (.string c.ms)) := ⟨fun W hW => by
    have h := hL1.far hW hL1.lt
    exact ⟨h.cell hok 0 _ rfl, h.cell hok 1 _ rfl, h.cell hok 2 _ rfl, h.cell hok 3 _ rfl, h.cell hok 4 _ rfl, h.cell hok 5 _ rfl, h.cell hok 6 _ rfl⟩⟩
  have KRg : Kept (w1.rangeAt w.heap.size 0 c.l) := ⟨hL1.range⟩
  have KRi : Kept (∀ W, Below w1.heap.size w1 W → W.rangeAt w.heap.size 0 (cellsK .u8 c.tg)) := ⟨fun W hW j u hu => by
    have h := (hL1.far hW hL1.lt).range j u (by
      unfold LbC.l
      rw [List.getElem?_append_left (by
        rcases Nat.lt_or_ge j (cellsK .u8 c.tg).length with h' | h'
        · exact h'
        · rw [List.getElem?_eq_none h'] at hu; cases hu)]
      exact hu)
    exact h⟩
  have KIl : Kept ((Tryz.prog.info? 61).map (·.size) = some c.l.length) := ⟨by rw [LbC.len hok]; kernel_rfl⟩
  have KIi : Kept ((Tryz.prog.info? 39).map (·.size) = some (cellsK .u8 c.tg).length) := ⟨by rw [cellsK_length, hok.1]; kernel_rfl⟩
  have KT := Kept.mk (tagError_any c w1 hok)
  have KPI : Kept (∀ W, Below w1.heap.size w1 W → Calls Tryz.prog 92 #[c.ig.v] W fun e w' => e = .returned (.tuple #[.string (putS c.ig), .int .i64 (putE c.ig)]) ∧ Below W.heap.size W w') := ⟨fun W hW => putIdent_any c.ig W (KG.out W hW)⟩
  have KH : Kept (∀ W, Calls Tryz.prog 94 #[.agg (cellsK .u8 c.tg).toArray] W fun e w' => e = .returned (.string (strOfNums (Sh.hexF c.tg))) ∧ Below W.heap.size W w') := ⟨fun W => Sh.hex_any c.tg W hok.1 (fun x hx => hok.2.1 x hx)⟩
  have KW : Kept (∀ W, Calls Tryz.prog 46 #[.int .i64 c.k] W fun e w' => e = .returned (.string (wdF c.k)) ∧ w' = W) := ⟨fun W => word_any c.k W⟩
  unfold Idt.v at KPI
  have KTF : Kept (ptgL c = if teF c = 0 then tgL c else []) := ⟨rfl⟩
  have KOk := Kept.mk (teF_ok (c := c))
  have KPsz : Kept (idF c.ig = true → putS c.ig = putB c.ig ∧ (putB c.ig).size ≤ 300) := ⟨fun h => ⟨by unfold putS; rw [if_pos h], putB_small h⟩⟩
  have KTL : Kept (tgL c = [111, 98, 106, 101, 99, 116] ++ [32] ++ Sh.hexF c.tg ++ [10] ++ [116, 121, 112, 101] ++ [32] ++ strL (wdF c.k) ++ [10] ++ [116, 97, 103] ++ [32] ++ strL c.nm ++ [10] ++ [116, 97, 103, 103, 101, 114] ++ [32] ++ strL (putB c.ig) ++ [10] ++ [10] ++ strL c.ms) := ⟨rfl⟩
  have KHx : Kept (strL (strOfNums (Sh.hexF c.tg)) = Sh.hexF c.tg ∧ (strOfNums (Sh.hexF c.tg)).size = 64) := ⟨strL_back (fun x hx => Sh.hexF_allB (fun y hy => hok.2.1 y hy) x hx), by rw [strOfNums_size, Sh.hexF_length, hok.1]⟩
  have KWs := Kept.mk (wd_size c.k)
  have Knm : Kept (tnF c.nm = true → c.nm.size ≤ 100) := ⟨tnF_size⟩
  generalize teF c = TE at *
  generalize ptgL c = PL at *
  generalize tgL c = TL at *
  generalize putE c.ig = PE at *
  obtain ⟨c32, c33, c34, c35, c36, c37, c38⟩ := KC.out w1 (Below.refl _ _)
  obtain ⟨tg, k, nm, ig, ms⟩ := c
  simp only at *
  generalize (LbC.mk tg k nm ig ms).l = CL at *
  generalize Sh.hexF tg = HL at *
  generalize strOfNums HL = HX at *
  generalize wdF k = WD at *
  generalize cellsK .u8 tg = TG at *
  clear hB1 hL1 hok hg KL1
  by_cases hE : TE = 0
  · obtain ⟨hms, htn, hid, -, -⟩ := KOk.out hE
    obtain ⟨hps, hpb⟩ := KPsz.out hid
    have Ksz : Kept (nm.size ≤ 100 ∧ ms.size ≤ 65536 ∧ (putB ig).size ≤ 300 ∧ WD.size ≤ 6 ∧ HX.size = 64) := ⟨Knm.out htn, hms, hpb, KWs.out, KHx.out.2⟩
    rw [hps] at KPI
    rw [if_pos hE, KTL.out] at KTF
    subst hE
    clear hms htn hid hps hpb KOk KPsz Knm KWs KTL
    generalize putB ig = PB at *
    obtain ⟨inm, iem, itm, izn⟩ := ig
    simp only at *
    have KSL : Kept ((strL nm).length = nm.size ∧ (strL PB).length = PB.size ∧ (strL WD).length = WD.size ∧ HL.length = 64) := ⟨strL_length nm, strL_length PB, strL_length WD, by rw [← KHx.out.1, strL_length]; exact KHx.out.2⟩
    go_enter Tryz.func65, Tryz.ntmps65
    go_wp2_with (first | (refine wpList_load_mid rfl 61 _ rfl w.heap.size 0 rfl CL _ KRg.out Tryz.underlying61 rfl KIl.out ?_))
    refine Calls.mono KT.out (fun e w2 hp => ?_)
    obtain ⟨rfl, hb2⟩ := hp
    have KB2 := Kept.mk hb2
    clear c32 c33 c34 c35 c36 c37 c38 hb2 KT
    obtain ⟨c32, c33, c34, c35, c36, c37, c38⟩ := KC.out w2 KB2.out
    go_wp2_with fail
    refine Calls.mono (KPI.out w2 KB2.out) (fun e w3 hp => ?_)
    obtain ⟨rfl, hb3⟩ := hp
    have KB3 := Kept.mk (KB2.out.trans (hb3.mono KB2.out.size))
    clear c32 c33 c34 c35 c36 c37 c38 hb3 KPI
    have KRi3 := Kept.mk (KRi.out w3 KB3.out)
    go_wp2_with (first | (refine wpList_load_mid rfl 39 _ rfl w.heap.size 0 rfl TG _ KRi3.out Tryz.underlying39 rfl KIi.out ?_))
    refine Calls.mono (KH.out w3) (fun e w4 hp => ?_)
    obtain ⟨rfl, hb4⟩ := hp
    have KB4 := Kept.mk (KB3.out.trans (hb4.mono KB3.out.size))
    clear hb4 KH KRi3
    have K5 := Kept.mk (putLine_any (.slice none 0 0) [] ⟨#[111, 98, 106, 101, 99, 116]⟩ HX w1.heap.size w4 KB4.out.size (Own.nil _ _ _ _) (by have : (⟨#[111, 98, 106, 101, 99, 116]⟩ : ByteArray).size = 6 := rfl; have := Ksz.out; simp only [List.length_nil]; omega))
    rw [KHx.out.1] at K5
    obtain ⟨L5, hL5⟩ : ∃ L5, [] ++ strL ⟨#[111, 98, 106, 101, 99, 116]⟩ ++ [32] ++ HL ++ [10] = L5 := ⟨_, rfl⟩
    rw [hL5] at K5
    have Kn5 : Kept (L5.length = 72) := ⟨by rw [← hL5]; have : (strL ⟨#[111, 98, 106, 101, 99, 116]⟩).length = 6 := rfl; have := KSL.out; simp only [List.length_append, List.length_singleton, List.length_nil]; omega⟩
    go_wp2_with fail
    refine Calls.mono K5.out (fun e w5 hp => ?_)
    obtain ⟨v5, rfl, ho5, hb5⟩ := hp
    have KB5 := Kept.mk (KB4.out.trans hb5)
    obtain ⟨c32, c33, c34, c35, c36, c37, c38⟩ := KC.out w5 KB5.out
    have K6 := Kept.mk (putLine_any v5 L5 ⟨#[116, 121, 112, 101]⟩ WD w1.heap.size w5 KB5.out.size ho5 (by have : (⟨#[116, 121, 112, 101]⟩ : ByteArray).size = 4 := rfl; have := Ksz.out; have := Kn5.out; omega))
    obtain ⟨L6, hL6⟩ : ∃ L6, L5 ++ strL ⟨#[116, 121, 112, 101]⟩ ++ [32] ++ strL WD ++ [10] = L6 := ⟨_, rfl⟩
    rw [hL6] at K6
    have hn6 : L6.length ≤ 90 := by rw [← hL6]; have : (strL ⟨#[116, 121, 112, 101]⟩).length = 4 := rfl; have := Kn5.out; have := KSL.out; have := Ksz.out; simp only [List.length_append, List.length_singleton]; omega
    clear ho5 hb5 K5
    go_wp2_with fail
    refine Calls.mono (KW.out w5) (fun e w5' hp => ?_)
    obtain ⟨rfl, hw5⟩ := hp
    have hw5 := hw5.symm
    subst hw5
    clear KW
    go_wp2_with fail
    refine Calls.mono K6.out (fun e w6 hp => ?_)
    obtain ⟨v6, rfl, ho6, hb6⟩ := hp
    have KB6 := Kept.mk (KB5.out.trans hb6)
    clear c32 c33 c34 c35 c36 c37 c38
    obtain ⟨c32, c33, c34, c35, c36, c37, c38⟩ := KC.out w6 KB6.out
    have K7 := Kept.mk (putLine_any v6 L6 ⟨#[116, 97, 103]⟩ nm w1.heap.size w6 KB6.out.size ho6 (by have : (⟨#[116, 97, 103]⟩ : ByteArray).size = 3 := rfl; have := Ksz.out; omega))
    obtain ⟨L7, hL7⟩ : ∃ L7, L6 ++ strL ⟨#[116, 97, 103]⟩ ++ [32] ++ strL nm ++ [10] = L7 := ⟨_, rfl⟩
    rw [hL7] at K7
    have hn7 : L7.length ≤ 200 := by rw [← hL7]; have : (strL ⟨#[116, 97, 103]⟩).length = 3 := rfl; have := KSL.out; have := Ksz.out; simp only [List.length_append, List.length_singleton]; omega
    clear ho6 hb6 K6
    go_wp2_with fail
    refine Calls.mono K7.out (fun e w7 hp => ?_)
    obtain ⟨v7, rfl, ho7, hb7⟩ := hp
    have KB7 := Kept.mk (KB6.out.trans hb7)
    clear c32 c33 c34 c35 c36 c37 c38
    have K8 := Kept.mk (putLine_any v7 L7 ⟨#[116, 97, 103, 103, 101, 114]⟩ PB w1.heap.size w7 KB7.out.size ho7 (by have : (⟨#[116, 97, 103, 103, 101, 114]⟩ : ByteArray).size = 6 := rfl; have := Ksz.out; omega))
    obtain ⟨L8, hL8⟩ : ∃ L8, L7 ++ strL ⟨#[116, 97, 103, 103, 101, 114]⟩ ++ [32] ++ strL PB ++ [10] = L8 := ⟨_, rfl⟩
    rw [hL8] at K8
    have hn8 : L8.length ≤ 600 := by rw [← hL8]; have : (strL ⟨#[116, 97, 103, 103, 101, 114]⟩).length = 6 := rfl; have := KSL.out; have := Ksz.out; simp only [List.length_append, List.length_singleton]; omega
    clear ho7 hb7 K7
    go_wp2_with fail
    refine Calls.mono K8.out (fun e w8 hp => ?_)
    obtain ⟨v8, rfl, ho8, hb8⟩ := hp
    have KB8 := Kept.mk (KB7.out.trans hb8)
    obtain ⟨c32, c33, c34, c35, c36, c37, c38⟩ := KC.out w8 KB8.out
    have K9 := Kept.mk (putMessage_any v8 L8 ms w1.heap.size w8 KB8.out.size ho8 (by have := Ksz.out; omega))
    clear ho8 hb8 K8
    have KPL : Kept (PL = L8 ++ [10] ++ strL ms) := ⟨by
      rw [KTF.out, ← hL8, ← hL7, ← hL6, ← hL5]
      rfl⟩
    clear hL5 hL6 hL7 hL8
    go_wp2_with fail
    refine Calls.mono K9.out (fun e w9 hp => ?_)
    obtain ⟨v9, rfl, ho9, hb9⟩ := hp
    have KO9 := Kept.mk ho9
    have KB9 := Kept.mk (KB1.out.trans ((KB8.out.trans hb9).mono KB1.out.size))
    clear ho9 hb9 K9 c32 c33 c34 c35 c36 c37 c38
    go_wp2
    go_ret2
    exact ⟨_, rfl, by rw [KPL.out]; exact KO9.out.mono (Nat.le_of_lt Klt.out), KB9.out⟩
  · have hEi : ¬ TE = 0 := hE
    rw [if_neg hE] at KTF
    clear KOk KPsz Knm c32 c33 c34 c35 c36 c37 c38
    go_enter Tryz.func65, Tryz.ntmps65
    go_wp2_with (first | (refine wpList_load_mid rfl 61 _ rfl w.heap.size 0 rfl CL _ KRg.out Tryz.underlying61 rfl KIl.out ?_))
    refine Calls.mono KT.out (fun e w2 hp => ?_)
    obtain ⟨rfl, hb2⟩ := hp
    have KB2 := Kept.mk (KB1.out.trans (hb2.mono KB1.out.size))
    clear hb2 KT
    go_wp2
    go_ret2
    exact ⟨_, rfl, by rw [KTF.out]; exact Own.nil _ _ _ _, KB2.out⟩


def msF (s : ByteArray) : Int := if 65536 < s.size then 2 else if hasF s 0 = true then 4 else 0
theorem msF_least (s : ByteArray) : lsF (lsF 0 (if decide ((65536 : Int) < (s.size : Int)) = true then 2 else 0)) (if hasF s 0 = true then 4 else 0) = msF s := by
  unfold msF lsF
  by_cases h1 : 65536 < s.size
  · have h1i : (65536 : Int) < (s.size : Int) := by omega
    rw [if_pos h1, decide_eq_true h1i]
    cases hasF s 0 <;> simp
  · have h1i : ¬ (65536 : Int) < (s.size : Int) := by omega
    rw [if_neg h1, decide_eq_false h1i]
    cases hasF s 0 <;> simp
set_option maxHeartbeats 1000000 in
set_option maxRecDepth 100000 in
theorem message_any (s : ByteArray) (w : World) (hs : s.size < 9223372036854775807) : Calls Tryz.prog 70 #[.string s] w fun e w' => e = .returned (.int .i64 (msF s)) ∧ Below w.heap.size w w' := by
  have KM := Kept.mk (msF_least s)
  have KI1 := Kept.mk (if_any (decide ((65536 : Int) < (s.size : Int))) 2 w)
  have KH := Kept.mk (has_any s 0 0 rfl w hs)
  have KI2 : Kept (∀ W, Calls Tryz.prog 44 #[.bool (hasF s 0), .int .i64 4] W fun x w' => x = .returned (.int .i64 (if hasF s 0 = true then 4 else 0)) ∧ w' = W) := ⟨fun W => if_any (hasF s 0) 4 W⟩
  have KLs : Kept (∀ (a b : Int) (g : Nat) (w : World), w.heap[g]? = some (.cells #[.int .i64 a, .int .i64 b] 28) → Calls Tryz.prog 43 #[.slice (some ⟨g, 0, none⟩) 2 2] w fun e w' => e = .returned (.int .i64 (lsF (lsF 0 a) b)) ∧ w' = w) := ⟨fun a b g w h => least_two a b g w h⟩
  obtain ⟨q1, hq1⟩ : ∃ q1, decide ((65536 : Int) < (s.size : Int)) = q1 := ⟨_, rfl⟩
  rw [hq1] at KI1 KM
  generalize (if q1 = true then (2 : Int) else 0) = A1 at *
  generalize hA2 : (if hasF s 0 = true then (4 : Int) else 0) = A2 at *
  generalize hasF s 0 = q2 at *
  generalize msF s = MS at *
  clear hA2
  go_enter Tryz.func70, Tryz.ntmps70
  go_wp2_with fail
  refine Calls.mono KI1.out (fun e w1 hp => ?_)
  obtain ⟨rfl, hw1⟩ := hp
  have hw1 := hw1.symm
  subst hw1
  clear KI1
  go_wp2_with fail
  refine Calls.mono KH.out (fun e w2 hp => ?_)
  obtain ⟨rfl, hb2⟩ := hp
  have KB2 := Kept.mk hb2
  clear hb2 KH
  go_wp2_with fail
  refine Calls.mono (KI2.out w2) (fun e w3 hp => ?_)
  obtain ⟨rfl, hw3⟩ := hp
  have hw3 := hw3.symm
  subst hw3
  clear KI2
  have K4 := Kept.mk (KLs.out A1 A2 w2.heap.size (w2.alloc (.cells #[.int .i64 A1, .int .i64 A2] 28)) (heap_alloc_new w2 _))
  have KB4 : Kept (Below w.heap.size w (w2.alloc (.cells #[.int .i64 A1, .int .i64 A2] 28))) := ⟨KB2.out.alloc KB2.out.size _⟩
  rw [KM.out] at K4
  clear KLs KM
  go_wp2_with fail
  refine Calls.mono K4.out (fun e w5 hp => ?_)
  obtain ⟨rfl, hw5⟩ := hp
  have hw5 := hw5.symm
  subst hw5
  go_wp2
  go_ret
  exact ⟨rfl, KB4.out⟩


set_option maxHeartbeats 1000000 in
set_option maxRecDepth 100000 in
theorem rkind_any (s : ByteArray) (w : World) : Calls Tryz.prog 40 #[.string s] w fun e w' => e = .returned (.int .i64 (koF s)) ∧ w' = w := by
  go_enter Tryz.func40, Tryz.ntmps40
  go_wp2_with fail
  go_loopw [3] (fun kv wr => ∃ k : Nat, 1 ≤ k ∧ k ≤ 5 ∧ kv = .int .i64 k ∧ (∀ j : Nat, 1 ≤ j → j < k → wdF j ≠ s) ∧ wr = w) (fun kv _ => 5 - (intOf kv).toNat)
  case atStart => exact ⟨1, by omega, by omega, rfl, fun j h1 h2 => by omega, rfl⟩
  case round =>
    obtain ⟨k, h1, h5, rfl, hno, hw⟩ := hrel
    have hw := hw.symm
    subst hw
    have Kno := Kept.mk hno
    clear hno
    by_cases hlt : k ≤ 4
    · have hki : (k : Int) ≤ 4 := by omega
      have K1 := Kept.mk (rword_any (k : Int) w)
      have hq := beq_bytes (wdF k) s
      have e3 : IntKind.i64.wrap ((k : Int) + 1) = (k : Int) + 1 := by rw [IntKind.wrap_i64]; omega
      by_cases he : wdF k = s
      · have KE := Kept.mk (koF_at h1 hlt Kno.out he)
        rw [decide_eq_true he] at hq
        clear he
        generalize wdF k = D at *
        go_wp2_with fail
        refine Calls.mono K1.out (fun e w1 hp => ?_)
        obtain ⟨rfl, hw1⟩ := hp
        have hw1 := hw1.symm
        subst hw1
        go_wp2
        go_ret
        exact ⟨by rw [KE.out]; rfl, rfl⟩
      · have KR : Kept (∀ j : Nat, 1 ≤ j → j < k + 1 → wdF j ≠ s) := ⟨fun j g1 g2 => by
          rcases Nat.lt_or_ge j k with g | g
          · exact Kno.out j g1 g
          · rw [show j = k by omega]; exact he⟩
        rw [decide_eq_false he] at hq
        clear he
        generalize wdF k = D at *
        go_wp2_with fail
        refine Calls.mono K1.out (fun e w1 hp => ?_)
        obtain ⟨rfl, hw1⟩ := hp
        have hw1 := hw1.symm
        subst hw1
        go_wp2
        go_roundw
        case rel => exact ⟨k + 1, by omega, by omega, by go_num, KR.out, trivial⟩
        case measure => simp [intOf]; omega
    · have hki : ¬ (k : Int) ≤ 4 := by omega
      have KE : Kept (koF s = 0) := ⟨koF_none fun j g1 g2 => Kno.out j g1 (by omega)⟩
      go_wp2
      go_ret
      exact ⟨by rw [KE.out]; rfl, rfl⟩
def LnAt (t word rest behind : List UInt8) : Prop := t = word ++ 32 :: (rest ++ 10 :: behind) ∧ (10 : UInt8) ∉ rest
def LnNo (t word : List UInt8) : Prop := ∀ rest behind, ¬ LnAt t word rest behind
def LnEnd (t word : ByteArray) (w : World) (e : Ending) (w' : World) : Prop :=
  (LnNo t.data.toList word.data.toList ∧ e = .returned (.tuple #[.string ⟨#[]⟩, .string ⟨#[]⟩, .bool false]) ∧ Below w.heap.size w w') ∨
  (∃ a b : ByteArray, LnAt t.data.toList word.data.toList a.data.toList b.data.toList ∧ e = .returned (.tuple #[.string a, .string b, .bool true]) ∧ Below w.heap.size w w')
theorem ext_list (t : ByteArray) (a b : Nat) : (t.extract a b).data.toList = (t.data.toList.drop a).take (b - a) := by
  rw [ByteArray.data_extract, Array.toList_extract, List.extract_eq_take_drop]
theorem ln_short {t word : ByteArray} (h : t.size < word.size + 1) : LnNo t.data.toList word.data.toList := fun rest behind hl => by
  have := congrArg List.length hl.1
  rw [← Lib.size_eq] at this
  simp only [List.length_append, List.length_cons, ← Lib.size_eq] at this
  omega
theorem ln_other {t word : ByteArray} (h : t.extract 0 (word.size + 1) ≠ word ++ ⟨#[32]⟩) : LnNo t.data.toList word.data.toList := fun rest behind hl => h (by
  apply ByteArray.ext
  apply Array.ext'
  rw [ext_list, hl.1, ByteArray.data_append, Array.toList_append, Lib.size_eq, List.drop_zero, Nat.sub_zero, List.take_append, List.take_of_length_le (by omega), Nat.add_sub_cancel_left]
  rfl)
theorem ln_none {t word : ByteArray} (h : ∀ j, word.size + 1 ≤ j → j < t.size → sN t j ≠ 10) : LnNo t.data.toList word.data.toList := fun rest behind hl => by
  have hlen := congrArg List.length hl.1
  rw [← Lib.size_eq] at hlen
  simp only [List.length_append, List.length_cons, ← Lib.size_eq] at hlen
  refine h (word.size + 1 + rest.length) (by omega) (by omega) ((sN_eq t 10 (by omega)).2 ?_)
  rw [hl.1, List.getElem?_append_right (by rw [← Lib.size_eq]; omega), ← Lib.size_eq, show word.size + 1 + rest.length - word.size = rest.length + 1 by omega, List.getElem?_cons_succ, List.getElem?_append_right (Nat.le_refl _), Nat.sub_self]
  rfl
theorem ln_yes {t word : ByteArray} {i : Nat} (hp : t.extract 0 (word.size + 1) = word ++ ⟨#[32]⟩) (h : ∀ j, word.size + 1 ≤ j → j < i → sN t j ≠ 10) (h1 : word.size + 1 ≤ i) (h2 : i < t.size) (hi : sN t i = 10) : LnAt t.data.toList word.data.toList (t.extract (word.size + 1) i).data.toList (t.extract (i + 1) t.size).data.toList := by
  have hl : t.data.toList.length = t.size := by rw [Lib.size_eq]
  have e1 : t.data.toList.take (word.size + 1) = word.data.toList ++ [32] := by
    have := congrArg (fun b : ByteArray => b.data.toList) hp
    rw [ext_list, List.drop_zero, Nat.sub_zero, ByteArray.data_append, Array.toList_append] at this
    exact this
  have e2 : t.data.toList[i]? = some 10 := (sN_eq t 10 h2).1 hi
  have e3 : t.data.toList.drop i = 10 :: t.data.toList.drop (i + 1) := by
    rw [List.drop_eq_getElem_cons (by omega)]
    rw [List.getElem?_eq_getElem (by omega)] at e2
    rw [Option.some.inj e2]
  refine ⟨?_, fun hm => ?_⟩
  · rw [ext_list, ext_list, List.take_of_length_le (i := t.size - (i + 1)) (by rw [List.length_drop]; omega), ← e3]
    have e4 : t.data.toList.drop (word.size + 1) = (t.data.toList.drop (word.size + 1)).take (i - (word.size + 1)) ++ t.data.toList.drop i := by
      have := List.take_append_drop (i - (word.size + 1)) (t.data.toList.drop (word.size + 1))
      rw [List.drop_drop, show word.size + 1 + (i - (word.size + 1)) = i by omega] at this
      exact this.symm
    rw [← e4]
    have e5 := List.take_append_drop (word.size + 1) t.data.toList
    rw [e1] at e5
    rw [List.append_assoc] at e5
    exact e5.symm
  · rw [ext_list] at hm
    obtain ⟨j, hj, he⟩ := List.getElem_of_mem hm
    have hj' : j < i - (word.size + 1) := by rw [List.length_take] at hj; omega
    refine h (word.size + 1 + j) (by omega) (by omega) ((sN_eq t 10 (by omega)).2 ?_)
    rw [List.getElem_take, List.getElem_drop] at he
    rw [List.getElem?_eq_getElem (by omega), he]
set_option maxHeartbeats 1000000 in
set_option maxRecDepth 100000 in
theorem line_any (t word : ByteArray) (w : World) (hs : t.size ≤ 1048576) (hw : word.size ≤ 100) : Calls Tryz.prog 31 #[.string t, .string word] w (LnEnd t word w) := by
  obtain ⟨n, hn⟩ : ∃ n, n = word.size + 1 := ⟨_, rfl⟩
  have e1 : IntKind.i64.wrap ((word.size : Int) + 1) = (n : Int) := by rw [IntKind.wrap_i64]; omega
  by_cases h1 : t.size < n
  · have h1i : (t.size : Int) < (n : Int) := by omega
    have KN : Kept (LnNo t.data.toList word.data.toList) := ⟨ln_short (by omega)⟩
    clear h1 hn
    go_enter Tryz.func31, Tryz.ntmps31
    go_wp2
    refine bodyPost_ret (v := .tuple #[.string ⟨#[]⟩, .string ⟨#[]⟩, .bool false]) (by simp [results, Tryz.results31]) rfl ?_
    exact .inl ⟨KN.out, rfl, Below.refl _ _⟩
  · have h1i : ¬ (t.size : Int) < (n : Int) := by omega
    have h1j : (n : Int) ≤ (t.size : Int) := by omega
    have hadd := run_string_add_sum (P := Tryz.prog) w word ⟨#[32]⟩ (by have : (⟨#[32]⟩ : ByteArray).size = 1 := rfl; omega)
    have hq := beq_bytes (t.extract 0 n) (word ++ ⟨#[32]⟩)
    by_cases h2 : t.extract 0 n = word ++ ⟨#[32]⟩
    · have hpre := h2
      rw [decide_eq_true h2] at hq
      have KY : Kept (∀ i, (∀ j, n ≤ j → j < i → sN t j ≠ 10) → n ≤ i → i < t.size → sN t i = 10 → LnAt t.data.toList word.data.toList (t.extract n i).data.toList (t.extract (i + 1) t.size).data.toList) := ⟨fun i g1 g2 g3 g4 => by subst hn; exact ln_yes hpre g1 g2 g3 g4⟩
      have KNn : Kept ((∀ j, n ≤ j → j < t.size → sN t j ≠ 10) → LnNo t.data.toList word.data.toList) := ⟨fun g => by subst hn; exact ln_none g⟩
      have Knt : Kept (n ≤ t.size) := ⟨by omega⟩
      clear h1 h2 hpre hn
      generalize word ++ (⟨#[32]⟩ : ByteArray) = WS at *
      go_enter Tryz.func31, Tryz.ntmps31
      go_wp2_with fail
      go_loopw [8] (fun iv wr => ∃ i : Nat, n ≤ i ∧ i ≤ t.size ∧ iv = .int .i64 i ∧ wr = w ∧ ∀ j, n ≤ j → j < i → sN t j ≠ 10) (fun iv _ => t.size - (intOf iv).toNat)
      case atStart => exact ⟨n, Nat.le_refl _, Knt.out, rfl, rfl, fun j g1 g2 => by omega⟩
      case round =>
        obtain ⟨i, hni, hit, rfl, hww, hno⟩ := hrel
        have hww := hww.symm
        subst hww
        have Kno := Kept.mk hno
        clear hno hadd hq e1
        by_cases hlt : i < t.size
        · have hii : (i : Int) < (t.size : Int) := by omega
          have hix := run_index_text w t .i64 i hlt
          by_cases h10 : sN t i = 10
          · have KL := Kept.mk (KY.out i Kno.out hni hlt h10)
            rw [h10] at hix
            obtain ⟨i1, hi1⟩ : ∃ i1, i1 = i + 1 := ⟨_, rfl⟩
            rw [← hi1] at KL
            have e4 : IntKind.i64.wrap ((i : Int) + 1) = (i1 : Int) := by rw [IntKind.wrap_i64]; omega
            have g1 : (n : Int) ≤ (i : Int) := by omega
            have g2 : (i : Int) ≤ (t.size : Int) := by omega
            have g3 : (i1 : Int) ≤ (t.size : Int) := by omega
            clear h10 hi1 KY KNn
            go_upto_region 8 with fail
            refine wp_region_noPanic ?_
            have hSt : True := trivial
            refine wp_region_held_drew (S := fun _ => True) (by kernel_rfl) hSt (fun hHeld => ?_)
            refine wpAnyH_takeD (i := 0) (d := some 35) (v := .string t) rfl rfl (by kernel_rfl) (by kernel_rfl) (by kernel_rfl) (fun _ _ _ h => h) (Or.inl ⟨by rfl, fun W hSw => by clear hSw; go_simp⟩) (by assumption) ?_
            simp only [Act.put, List.setIfInBounds_toArray, List.set_cons_zero, List.set_cons_succ]
            refine wpAnyH_takeD (i := 1) (d := some 36) (v := .int .i64 n) rfl rfl (by kernel_rfl) (by kernel_rfl) (by kernel_rfl) (fun _ _ _ h => h) (Or.inl ⟨by rfl, fun W hSw => by clear hSw; go_simp⟩) (by assumption) ?_
            simp only [Act.put, List.setIfInBounds_toArray, List.set_cons_zero, List.set_cons_succ]
            refine wpAnyH_takeD (i := 2) (d := some 37) (v := .int .i64 i) rfl rfl (by kernel_rfl) (by kernel_rfl) (by kernel_rfl) (fun _ _ _ h => h) (Or.inl ⟨by rfl, fun W hSw => by clear hSw; go_simp⟩) (by assumption) ?_
            simp only [Act.put, List.setIfInBounds_toArray, List.set_cons_zero, List.set_cons_succ]
            refine wpAnyH_takeD (i := 3) (d := some 38) (v := .string (t.extract n i)) rfl rfl (by kernel_rfl) (by kernel_rfl) (by kernel_rfl) (fun _ _ _ h => h) (Or.inl ⟨by rfl, fun W hSw => by clear hSw; go_simp⟩) (by assumption) ?_
            simp only [Act.put, List.setIfInBounds_toArray, List.set_cons_zero, List.set_cons_succ]
            refine wpAnyH_takeD (i := 4) (d := some 39) (v := .string t) rfl rfl (by kernel_rfl) (by kernel_rfl) (by kernel_rfl) (fun _ _ _ h => h) (Or.inl ⟨by rfl, fun W hSw => by clear hSw; go_simp⟩) (by assumption) ?_
            simp only [Act.put, List.setIfInBounds_toArray, List.set_cons_zero, List.set_cons_succ]
            refine wpAnyH_takeD (i := 5) (d := some 40) (v := .int .i64 i) rfl rfl (by kernel_rfl) (by kernel_rfl) (by kernel_rfl) (fun _ _ _ h => h) (Or.inl ⟨by rfl, fun W hSw => by clear hSw; go_simp⟩) (by assumption) ?_
            simp only [Act.put, List.setIfInBounds_toArray, List.set_cons_zero, List.set_cons_succ]
            refine wpAnyH_takeD (i := 6) (d := some 41) (v := .int .i64 i1) rfl rfl (by kernel_rfl) (by kernel_rfl) (by kernel_rfl) (fun _ _ _ h => h) (Or.inl ⟨by rfl, fun W hSw => by clear hSw; go_simp⟩) (by assumption) ?_
            simp only [Act.put, List.setIfInBounds_toArray, List.set_cons_zero, List.set_cons_succ]
            refine wpAnyH_takeD (i := 7) (d := some 42) (v := .string (t.extract i1 t.size)) rfl rfl (by kernel_rfl) (by kernel_rfl) (by kernel_rfl) (fun _ _ _ h => h) (Or.inl ⟨by rfl, fun W hSw => by clear hSw; go_simp⟩) (by assumption) ?_
            simp only [Act.put, List.setIfInBounds_toArray, List.set_cons_zero, List.set_cons_succ]
            refine wpAnyH_takeD (i := 8) (d := some 4) (v := .string (t.extract n i)) rfl rfl (by kernel_rfl) (by kernel_rfl) (by kernel_rfl) (fun _ _ _ h => h) (Or.inl ⟨by rfl, fun W hSw => by clear hSw; go_simp⟩) (by assumption) ?_
            simp only [Act.put, List.setIfInBounds_toArray, List.set_cons_zero, List.set_cons_succ]
            refine wpAnyH_takeD (i := 9) (d := some 5) (v := .string (t.extract i1 t.size)) rfl rfl (by kernel_rfl) (by kernel_rfl) (by kernel_rfl) (fun _ _ _ h => h) (Or.inl ⟨by rfl, fun W hSw => by clear hSw; go_simp⟩) (by assumption) ?_
            simp only [Act.put, List.setIfInBounds_toArray, List.set_cons_zero, List.set_cons_succ]
            refine wpAnyH_takeD (i := 10) (d := some 6) (v := .bool true) rfl rfl (by kernel_rfl) (by kernel_rfl) (by kernel_rfl) (fun _ _ _ h => h) (Or.inl ⟨by rfl, fun W hSw => by clear hSw; go_simp⟩) (by assumption) ?_
            simp only [Act.put, List.setIfInBounds_toArray, List.set_cons_zero, List.set_cons_succ]
            refine wpAnyH_done (by kernel_rfl) ?_ _
            refine NoPanic.normal ?_
            go_wp2
            refine bodyPost_ret (v := .tuple #[.string (t.extract n i), .string (t.extract i1 t.size), .bool true]) (by simp [results, Tryz.results31]) rfl ?_
            exact .inr ⟨_, _, KL.out, rfl, (Below.refl _ w).drew⟩
          · have KR : Kept (∀ j, n ≤ j → j < i + 1 → sN t j ≠ 10) := ⟨fun j g1 g2 => by
              rcases Nat.lt_or_ge j i with g | g
              · exact Kno.out j g1 g
              · rw [show j = i by omega]; exact h10⟩
            have e3 : IntKind.i64.wrap ((i : Int) + 1) = (i : Int) + 1 := by rw [IntKind.wrap_i64]; omega
            generalize sN t i = y at *
            go_wp2
            go_roundw
            case rel => exact ⟨i + 1, by omega, by omega, by go_num, trivial, KR.out⟩
            case measure => simp [intOf]; omega
        · have hii : ¬ (i : Int) < (t.size : Int) := by omega
          have KN : Kept (LnNo t.data.toList word.data.toList) := ⟨KNn.out fun j g1 g2 => Kno.out j g1 (by omega)⟩
          go_wp2
          refine bodyPost_ret (v := .tuple #[.string ⟨#[]⟩, .string ⟨#[]⟩, .bool false]) (by simp [results, Tryz.results31]) rfl ?_
          exact .inl ⟨KN.out, rfl, Below.refl _ _⟩
    · have KN : Kept (LnNo t.data.toList word.data.toList) := ⟨ln_other (by rw [← hn]; exact h2)⟩
      rw [decide_eq_false h2] at hq
      clear h1 h2 hn
      generalize word ++ (⟨#[32]⟩ : ByteArray) = WS at *
      go_enter Tryz.func31, Tryz.ntmps31
      go_wp2
      refine bodyPost_ret (v := .tuple #[.string ⟨#[]⟩, .string ⟨#[]⟩, .bool false]) (by simp [results, Tryz.results31]) rfl ?_
      exact .inl ⟨KN.out, rfl, Below.refl _ _⟩


theorem setL_mid : ∀ (vs pre old suf : List Value), old.length = vs.length → Sh.setL (pre ++ (old ++ suf)).toArray pre.length vs = (pre ++ (vs ++ suf)).toArray
  | [], pre, old, suf, h => by
    have : old = [] := List.eq_nil_of_length_eq_zero (by simpa using h)
    subst this
    rfl
  | v :: vs, pre, old, suf, h => by
    cases old with
    | nil => simp at h
    | cons o old =>
      have ih := setL_mid vs (pre ++ [v]) old suf (by simpa using h)
      have e : (pre ++ (o :: old ++ suf)).toArray.setIfInBounds pre.length v = (pre ++ [v] ++ (old ++ suf)).toArray := by
        rw [List.setIfInBounds_toArray]
        congr 1
        rw [List.set_append_right _ _ (Nat.le_refl _), Nat.sub_self]
        simp
      rw [Sh.setL, e]
      rw [List.length_append, List.length_singleton] at ih
      rw [ih]
      simp
section
variable {w w' : World} {g : Nat} {c : LbC}
theorem LbB.setTg (h : LbB w g c) (hok : c.ok) {ids : List Int} (hi : ids.length = 32) : LbB (w.setCells g 0 (cellsK .u8 ids)) g { c with tg := ids } := by
  have h1 := Sh.heap_setCells g 61 (cellsK .u8 ids) 0 w _ h
  have h2 := setL_mid (cellsK .u8 ids) [] (cellsK .u8 c.tg) c.tl (by rw [cellsK_length, cellsK_length, hok.1, hi])
  unfold LbB
  rw [h1]
  unfold LbC.l
  rw [List.nil_append, List.length_nil] at h2
  rw [h2]
  rfl
theorem LbB.setT (h : LbB w g c) (hok : c.ok) (j : Nat) (v : Value) (hj : j < 7) : (w.setCell ⟨g, 32 + j, none⟩ v).heap[g]? = some (.cells (cellsK .u8 c.tg ++ c.tl.set j v).toArray 61) := by
  rw [heap_setCell_same w g (32 + j) _ 61 v h]
  congr 2
  unfold LbC.l
  rw [List.setIfInBounds_toArray, List.set_append_right _ _ (by rw [cellsK_length, hok.1]; omega), cellsK_length, hok.1, Nat.add_sub_cancel_left]
theorem LbB.setK (h : LbB w g c) (hok : c.ok) (x : Int) : LbB (w.setCell ⟨g, 32, none⟩ (.int .i64 x)) g { c with k := x } := h.setT hok 0 _ (by omega)
theorem LbB.setNm (h : LbB w g c) (hok : c.ok) (x : ByteArray) : LbB (w.setCell ⟨g, 33, none⟩ (.string x)) g { c with nm := x } := h.setT hok 1 _ (by omega)
theorem LbB.setMs (h : LbB w g c) (hok : c.ok) (x : ByteArray) : LbB (w.setCell ⟨g, 38, none⟩ (.string x)) g { c with ms := x } := h.setT hok 6 _ (by omega)
theorem LbB.frozen (h : LbB w g c) (i : Nat) : w.frozen? ⟨g, i, none⟩ = false := by
  unfold LbB at h
  simp [World.frozen?, h]
theorem LbB.other {g' i : Nat} (h : LbB w g c) (hne : g ≠ g') (u : Value) : LbB (w.setCell ⟨g', i, none⟩ u) g c := by
  unfold LbB at h ⊢
  rw [Below.heap_setCell _ _ _ _ hne]
  exact h
theorem LbB.there (h : LbB w g c) (hok : c.ok) (n : Nat) (hn : n ≤ 39) : w.there g 0 n := by
  intro j hj
  rw [Nat.zero_add]
  have hl := LbC.len hok
  have := h.range j (c.l[j]'(by omega)) (by rw [List.getElem?_eq_getElem])
  rw [Nat.zero_add] at this
  exact ⟨by rw [this]; rfl, h.frozen j⟩
end
def z32N : List Int := List.replicate 32 0
def lb0 : LbC := ⟨z32N, 0, ⟨#[]⟩, idt0, ⟨#[]⟩⟩
theorem lb0_ok : lb0.ok := ⟨by simp [lb0, z32N], fun x hx => by rw [List.eq_of_mem_replicate hx]; omega, by decide, by decide, by decide, by decide⟩
end Go.Proofs.YtkdlhcegimnocaaGreatDoor
