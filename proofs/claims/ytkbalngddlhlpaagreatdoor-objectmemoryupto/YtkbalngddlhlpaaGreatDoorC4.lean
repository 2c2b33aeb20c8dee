/-
  Walks: PutCommit. (By tools/gen_c3.py.)
-/
import Derived.Test.YtkbalngddlhlpaaGreatDoorC2
namespace Go.Proofs.YtkbalngddlhlpaaGreatDoor
open Go.RowKit

def paL (p : List Int) : List Int := [112, 97, 114, 101, 110, 116] ++ [32] ++ Sh.hexF p ++ [10]
def pasL (ps : List (List Int)) : List Int := ps.flatMap paL
def cmL (c : CmC) : List Int := [116, 114, 101, 101] ++ [32] ++ Sh.hexF c.tg ++ [10] ++ pasL c.ps ++ [97, 117, 116, 104, 111, 114] ++ [32] ++ strL (putB c.ia) ++ [10] ++ [99, 111, 109, 109, 105, 116, 116, 101, 114] ++ [32] ++ strL (putB c.ic) ++ [10] ++ [10] ++ strL c.ms
def pcmL (c : CmC) : List Int := if ceF c = 0 then cmL c else []
theorem hex_str {p : List Int} (h : IdOk p) : strL (strOfNums (Sh.hexF p)) = Sh.hexF p ∧ (strOfNums (Sh.hexF p)).size = 64 := ⟨strL_back (fun x hx => Sh.hexF_allB (fun y hy => h.2 y hy) x hx), by rw [strOfNums_size, Sh.hexF_length, h.1]⟩
theorem pas_len {ps : List (List Int)} (h : ∀ p ∈ ps, IdOk p) : (pasL ps).length = ps.length * 72 := by
  induction ps with
  | nil => rfl
  | cons p ps ih =>
    have h1 := h p List.mem_cons_self
    have h2 : (Sh.hexF p).length = 64 := by rw [Sh.hexF_length, h1.1]
    unfold pasL at ih ⊢
    rw [List.flatMap_cons, List.length_append, ih (fun q hq => h q (List.mem_cons_of_mem _ hq))]
    unfold paL
    simp only [List.length_append, List.length_cons, List.length_nil, h2]
    omega
theorem pas_snoc (ps : List (List Int)) {k : Nat} (h : k < ps.length) : pasL (ps.take (k + 1)) = pasL (ps.take k) ++ [112, 97, 114, 101, 110, 116] ++ [32] ++ Sh.hexF (ps[k]'h) ++ [10] := by
  unfold pasL
  rw [List.take_add_one, List.getElem?_eq_getElem h, List.flatMap_append]
  simp [paL]
set_option maxHeartbeats 4000000 in
set_option maxRecDepth 100000 in
theorem putCommit_any (c : CmC) (pv : Value) (w : World) (hg : Gl w) (hok : c.ok) (hpv : RdP w pv c.ps) : Calls Tryz.prog 10 #[.agg (c.l pv).toArray] w fun e w' => ∃ v', e = .returned (.tuple #[v', .int .i64 (ceF c)]) ∧ Own .u8 5 w' w.heap.size v' (pcmL c) ∧ Below w.heap.size w w' := by
  obtain ⟨w1, hw1, hB1, hL1⟩ := CmC.box w c pv
  have KB1 := Kept.mk hB1
  have Klt : Kept (w.heap.size < w1.heap.size) := ⟨hL1.lt⟩
  have KG : Kept (∀ W, Below w1.heap.size w1 W → Gl W) := ⟨fun W hW => (hg.later hB1).later hW⟩
  have KBl : Kept (∀ W, Below w1.heap.size w1 W → CmB W w.heap.size c pv) := ⟨fun W hW => hL1.far hW hL1.lt⟩
  have KPv : Kept (∀ W, Below w1.heap.size w1 W → RdP W pv c.ps) := ⟨fun W hW => (hpv.later hB1 (Nat.le_refl _)).later hW (Nat.le_refl _)⟩
  have Kok := Kept.mk hok
  obtain ⟨pa, pc, rfl, hpc, hpo, hpr⟩ := hpv
  have KT := Kept.mk (commitError_any c pa pc w1 hok)
  have KIl : Kept ((Tryz.prog.info? 40).map (·.size) = some (c.l (.slice pa c.ps.length pc)).length) := ⟨cm_info hok⟩
  have KRg := Kept.mk hL1.range
  have KTF : Kept (pcmL c = if ceF c = 0 then cmL c else []) := ⟨rfl⟩
  have KOk := Kept.mk (ceF_ok (c := c))
  clear hB1 hL1 hok hg hpc hpo hpr
  obtain ⟨CL, hCL⟩ : ∃ CL, c.l (.slice pa c.ps.length pc) = CL := ⟨_, rfl⟩
  rw [hCL] at KT KIl KRg hw1
  rw [hCL]
  clear hCL
  by_cases hE : ceF c = 0
  · obtain ⟨hnp, hms, hia, hic, -⟩ := KOk.out hE
    rw [if_pos hE] at KTF
    rw [hE] at KT
    have KPA : Kept (∀ W, Below w1.heap.size w1 W → Calls Tryz.prog 32 #[.agg (igL c.ia).toArray] W fun e w' => e = .returned (.tuple #[.string (putB c.ia), .int .i64 (putE c.ia)]) ∧ Below W.heap.size W w') := ⟨fun W hW => by
      have := putIdent_any c.ia W (KG.out W hW)
      rw [show putS c.ia = putB c.ia by unfold putS; rw [if_pos hia]] at this
      exact this⟩
    have KPC : Kept (∀ W, Below w1.heap.size w1 W → Calls Tryz.prog 32 #[.agg (igL c.ic).toArray] W fun e w' => e = .returned (.tuple #[.string (putB c.ic), .int .i64 (putE c.ic)]) ∧ Below W.heap.size W w') := ⟨fun W hW => by
      have := putIdent_any c.ic W (KG.out W hW)
      rw [show putS c.ic = putB c.ic by unfold putS; rw [if_pos hic]] at this
      exact this⟩
    have Ksz : Kept (c.ps.length ≤ 16 ∧ c.ms.size ≤ 65536 ∧ (putB c.ia).size ≤ 300 ∧ (putB c.ic).size ≤ 300) := ⟨hnp, hms, putB_small hia, putB_small hic⟩
    have KH : Kept (∀ p, IdOk p → ∀ W, Calls Tryz.prog 34 #[.agg (cellsK .u8 p).toArray] W fun e w' => e = .returned (.string (strOfNums (Sh.hexF p))) ∧ Below W.heap.size W w') := ⟨fun p hp W => Sh.hex_any p W hp.1 (fun x hx => hp.2 x hx)⟩
    have KIA := Kept.mk (igL_info c.ia)
    have KIC := Kept.mk (igL_info c.ic)
    have KIT := Kept.mk (id_infoL Kok.out.1)
    rw [hE]
    clear hnp hms hia hic KOk hE
    go_enter Tryz.func10, Tryz.ntmps10
    go_upto_region 1 with fail
    try rw [hw1]
    clear hw1
    go_wp2_with (first | (refine wpList_load_mid rfl 40 _ rfl w.heap.size 0 rfl CL _ KRg.out Tryz.underlying40 rfl KIl.out ?_))
    refine Calls.mono KT.out (fun e w2 hp => ?_)
    obtain ⟨rfl, hb⟩ := hp
    have KB2 := Kept.mk hb
    have KR2 := Kept.mk ((KBl.out w2 hb).rangeIa Kok.out)
    clear hb KT KRg
    have K3 := Kept.mk (KPA.out w2 KB2.out)
    generalize putE c.ia = EA at *
    obtain ⟨IA, hIA⟩ : ∃ IA, igL c.ia = IA := ⟨_, rfl⟩
    rw [hIA] at KR2 KIA K3
    clear hIA KPA
    go_wp2_with (first | (refine wpList_load_mid rfl 38 _ rfl w.heap.size 33 rfl IA _ KR2.out Tryz.underlying38 rfl KIA.out ?_))
    refine Calls.mono K3.out (fun e w3 hp => ?_)
    obtain ⟨rfl, hb⟩ := hp
    have KB3 := Kept.mk (KB2.out.trans (hb.mono KB2.out.size))
    have KR3 := Kept.mk ((KBl.out w3 KB3.out).rangeIc Kok.out)
    clear hb K3 KR2
    have K4 := Kept.mk (KPC.out w3 KB3.out)
    generalize putE c.ic = EC at *
    obtain ⟨IC, hIC⟩ : ∃ IC, igL c.ic = IC := ⟨_, rfl⟩
    rw [hIC] at KR3 KIC K4
    clear hIC KPC
    go_wp2_with (first | (refine wpList_load_mid rfl 38 _ rfl w.heap.size 37 rfl IC _ KR3.out Tryz.underlying38 rfl KIC.out ?_))
    refine Calls.mono K4.out (fun e w4 hp => ?_)
    obtain ⟨rfl, hb⟩ := hp
    have KB4 := Kept.mk (KB3.out.trans (hb.mono KB3.out.size))
    have KR4 := Kept.mk (KBl.out w4 KB4.out).rangeTg
    clear hb K4 KR3
    have K5 := Kept.mk (KH.out c.tg Kok.out.1 w4)
    have Khx := Kept.mk (hex_str Kok.out.1)
    have KHl : Kept ((Sh.hexF c.tg).length = 64) := ⟨by rw [Sh.hexF_length, Kok.out.1.1]⟩
    obtain ⟨TG, hTG⟩ : ∃ TG, cellsK .u8 c.tg = TG := ⟨_, rfl⟩
    rw [hTG] at KR4 KIT K5
    clear hTG
    obtain ⟨HX, hHX⟩ : ∃ HX, strOfNums (Sh.hexF c.tg) = HX := ⟨_, rfl⟩
    rw [hHX] at K5 Khx
    clear hHX
    go_wp2_with (first | (refine wpList_load_mid rfl 31 _ rfl w.heap.size 0 rfl TG _ KR4.out Tryz.underlying31 rfl KIT.out ?_))
    refine Calls.mono K5.out (fun e w5 hp => ?_)
    obtain ⟨rfl, hb⟩ := hp
    have KB5 := Kept.mk (KB4.out.trans (hb.mono KB4.out.size))
    clear hb K5 KR4
    have K6 := Kept.mk (putLine_any (.slice none 0 0) [] ⟨#[116, 114, 101, 101]⟩ HX w1.heap.size w5 KB5.out.size (Own.nil _ _ _ _) (by have : (⟨#[116, 114, 101, 101]⟩ : ByteArray).size = 4 := rfl; have := Khx.out; simp only [List.length_nil]; omega))
    rw [Khx.out.1] at K6
    obtain ⟨L6, hL6⟩ : ∃ L6, [] ++ strL ⟨#[116, 114, 101, 101]⟩ ++ [32] ++ Sh.hexF c.tg ++ [10] = L6 := ⟨_, rfl⟩
    rw [hL6] at K6
    have Kn6 : Kept (L6.length = 70) := ⟨by rw [← hL6]; have : (strL ⟨#[116, 114, 101, 101]⟩).length = 4 := rfl; have := KHl.out; simp only [List.length_append, List.length_singleton, List.length_nil]; omega⟩
    have KL6 := Kept.mk hL6
    clear hL6
    go_wp2_with fail
    refine Calls.mono K6.out (fun e w6 hp => ?_)
    obtain ⟨v6, rfl, ho6, hb⟩ := hp
    have KB6 := Kept.mk (KB5.out.trans hb)
    have KO6 := Kept.mk ho6
    have c32 := (KBl.out w6 KB6.out).cell Kok.out 0 _ rfl
    clear hb ho6 K6 KIT KIA KIC KIl
    have KPo := Kept.mk Kok.out.2.1
    have Kpas := Kept.mk (pas_len Kok.out.2.1)
    have KO60 : Kept (Own .u8 5 w6 w1.heap.size v6 (L6 ++ pasL (c.ps.take 0))) := ⟨by rw [show pasL (c.ps.take 0) = [] from rfl, List.append_nil]; exact KO6.out⟩
    have hnp : (c.ps.length : Int) ≤ 16 := by have := Ksz.out; omega
    obtain ⟨np, hnpe⟩ : ∃ np, c.ps.length = np := ⟨_, rfl⟩
    have Knp := Kept.mk hnpe
    rw [hnpe] at c32 hnp Ksz
    go_upto_region 8 with fail
    clear c32
    go_loopw [9, 36] (fun pvv iv wr => ∃ k : Nat, k ≤ np ∧ iv = .int .i64 k ∧ Own .u8 5 wr w1.heap.size pvv (L6 ++ pasL (c.ps.take k)) ∧ Below w1.heap.size w1 wr) (fun _ iv _ => np - (intOf iv).toNat)
    case atStart => exact ⟨0, Nat.zero_le _, rfl, KO60.out, KB6.out⟩
    case round =>
      obtain ⟨k, hk, rfl, hok9, hbr⟩ := hrel
      have KBr := Kept.mk hbr
      have KO9 := Kept.mk hok9
      clear KO60 KO6 KB6 hok9
      by_cases hlt : k < np
      · have hki : (k : Int) < (np : Int) := by omega
        have hkp : k < c.ps.length := by omega
        have e1 : IntKind.i64.wrap ((k : Int) + 1) = (k : Int) + 1 := by rw [IntKind.wrap_i64]; omega
        obtain ⟨pa', pc', hpe, -, -, hpr⟩ := KPv.out wr hbr
        obtain ⟨b, off, hpb, hblt, hrg⟩ := hpr (by omega)
        have hpae : pa = some ⟨b, off, none⟩ := by injection hpe with h1 h2 h3; rw [h1, hpb]
        subst hpae
        have KRk := Kept.mk (hrg k hkp)
        have hidk := KPo.out _ (List.getElem_mem hkp)
        have KIk := Kept.mk (id_infoL hidk)
        have KIk2 : Kept ((Tryz.prog.info? 31).map (·.size) = some (cellsK .u8 (c.ps[k]'hkp)).toArray.size) := ⟨by rw [List.size_toArray]; exact KIk.out⟩
        have KOk2 : Kept ((cellsK .u8 (c.ps[k]'hkp)).toArray.all (·.oneCell') = true) := ⟨all_oneCell_toArray (cellsK_one _ _)⟩
        have KSk : Kept ((cellsK .u8 (c.ps[k]'hkp)).toArray.size = 32) := ⟨by rw [List.size_toArray, cellsK_length]; exact hidk.1⟩
        obtain ⟨x2, hx2, hBx, hrx⟩ : ∃ x2, wr.alloc (.cells (cellsK .u8 (c.ps[k]'hkp)).toArray 31) = x2 ∧ Below wr.heap.size wr x2 ∧ x2.rangeAt wr.heap.size 0 (cellsK .u8 (c.ps[k]'hkp)) := ⟨_, rfl, (Below.refl _ _).alloc (Nat.le_refl _) _, fun j u hu => by
          rw [Nat.zero_add, cell_of_row _ _ j _ 31 (0, 0) (heap_alloc_new wr _)]
          simpa using hu⟩
        have KBx := Kept.mk (hbr.trans (hBx.mono hbr.size))
        have KRx := Kept.mk hrx
        have KO9x := Kept.mk (KO9.out.later hBx (Nat.le_refl _))
        have KHk := Kept.mk (KH.out _ hidk x2)
        have Khk := Kept.mk (hex_str hidk)
        have Kpk := Kept.mk (pas_snoc c.ps hkp)
        have Kpl : Kept ((pasL (c.ps.take k)).length ≤ 1152) := ⟨by rw [pas_len (fun p hp => KPo.out p (List.mem_of_mem_take hp)), List.length_take]; omega⟩
        clear hpr hrg hidk hbr hBx hrx hpe
        obtain ⟨PK, hPK⟩ : ∃ PK, cellsK .u8 (c.ps[k]'hkp) = PK := ⟨_, rfl⟩
        rw [hPK] at KRk KIk KIk2 KOk2 KSk hx2 KRx KHk
        clear hPK
        obtain ⟨HK, hHK⟩ : ∃ HK, strOfNums (Sh.hexF (c.ps[k]'hkp)) = HK := ⟨_, rfl⟩
        rw [hHK] at KHk Khk
        clear hHK
        go_upto_region 10 with (first | (refine wpList_load_mid rfl 31 _ rfl b (off + k * 32) rfl PK _ KRk.out Tryz.underlying31 rfl KIk.out ?_) | (refine BigFrame.wpList_want rfl (fun K hK => wp_store_row 31 _ _ rfl wr.heap.size PK.toArray rfl rfl 31 _ (heap_alloc_new wr _) KIk2.out (by rw [KSk.out]; rfl) KOk2.out (hK _ _ ?_)); rw [World.setRow_alloc_new]))
        try rw [hx2]
        clear hx2
        go_wp2_with (first | (refine wpList_load_mid rfl 31 _ rfl wr.heap.size 0 rfl PK _ KRx.out Tryz.underlying31 rfl KIk.out ?_))
        refine Calls.mono KHk.out (fun e x3 hp => ?_)
        obtain ⟨rfl, hb⟩ := hp
        have KBx3 := Kept.mk (KBx.out.trans (hb.mono KBx.out.size))
        have K11 := Kept.mk (putLine_any _ (L6 ++ pasL (c.ps.take k)) ⟨#[112, 97, 114, 101, 110, 116]⟩ HK w1.heap.size x3 KBx3.out.size (KO9x.out.later hb (Nat.le_refl _)) (by have : (⟨#[112, 97, 114, 101, 110, 116]⟩ : ByteArray).size = 6 := rfl; have := Khk.out; have := Kpl.out; have := Kn6.out; simp only [List.length_append]; omega))
        rw [Khk.out.1] at K11
        clear hb KHk KO9x
        go_wp2_with fail
        refine Calls.mono K11.out (fun e x4 hp => ?_)
        obtain ⟨v4, rfl, ho4, hb⟩ := hp
        have KO4 : Kept (Own .u8 5 x4 w1.heap.size v4 (L6 ++ pasL (c.ps.take (k + 1)))) := ⟨by
          rw [Kpk.out]
          simp only [← List.append_assoc]
          exact ho4⟩
        have KBx4 := Kept.mk (KBx3.out.trans hb)
        clear ho4 hb K11
        go_wp2
        go_roundw
        case rel => exact ⟨k + 1, by omega, by go_num, KO4.out, KBx4.out⟩
        case measure => simp [intOf]; omega
      · have hki : ¬ (k : Int) < (np : Int) := by omega
        obtain rfl : k = np := by omega
        have KO9 : Kept (Own .u8 5 wr w1.heap.size _ (L6 ++ pasL c.ps)) := ⟨by have := KO9.out; rw [List.take_of_length_le (by omega)] at this; exact this⟩
        have hidl : (pasL c.ps).length ≤ 1152 := by rw [Kpas.out, Knp.out]; have := Ksz.out; omega
        have KSL : Kept ((strL (putB c.ia)).length = (putB c.ia).size ∧ (strL (putB c.ic)).length = (putB c.ic).size) := ⟨strL_length _, strL_length _⟩
        have K12 := Kept.mk (putLine_any _ (L6 ++ pasL c.ps) ⟨#[97, 117, 116, 104, 111, 114]⟩ (putB c.ia) w1.heap.size wr hbr.size KO9.out (by have : (⟨#[97, 117, 116, 104, 111, 114]⟩ : ByteArray).size = 6 := rfl; have := Ksz.out; have := Kn6.out; simp only [List.length_append]; omega))
        obtain ⟨L12, hL12⟩ : ∃ L12, L6 ++ pasL c.ps ++ strL ⟨#[97, 117, 116, 104, 111, 114]⟩ ++ [32] ++ strL (putB c.ia) ++ [10] = L12 := ⟨_, rfl⟩
        have hn12 : L12.length ≤ 1600 := by rw [← hL12]; have : (strL ⟨#[97, 117, 116, 104, 111, 114]⟩).length = 6 := rfl; have := KSL.out; have := Ksz.out; have := Kn6.out; simp only [List.length_append, List.length_singleton]; omega
        rw [hL12] at K12
        have KL12 := Kept.mk hL12
        have Kn12 := Kept.mk hn12
        clear hbr hL12 hn12 hidl KO9 KH KPv hk hlt
        go_wp2_with fail
        refine Calls.mono K12.out (fun e x1 hp => ?_)
        obtain ⟨v1, rfl, ho1, hb⟩ := hp
        have KB12 := Kept.mk (KBr.out.trans hb)
        have K13 := Kept.mk (putLine_any v1 L12 ⟨#[99, 111, 109, 109, 105, 116, 116, 101, 114]⟩ (putB c.ic) w1.heap.size x1 KB12.out.size ho1 (by have : (⟨#[99, 111, 109, 109, 105, 116, 116, 101, 114]⟩ : ByteArray).size = 9 := rfl; have := Ksz.out; have := Kn12.out; omega))
        obtain ⟨L13, hL13⟩ : ∃ L13, L12 ++ strL ⟨#[99, 111, 109, 109, 105, 116, 116, 101, 114]⟩ ++ [32] ++ strL (putB c.ic) ++ [10] = L13 := ⟨_, rfl⟩
        have hn13 : L13.length ≤ 2000 := by rw [← hL13]; have : (strL ⟨#[99, 111, 109, 109, 105, 116, 116, 101, 114]⟩).length = 9 := rfl; have := KSL.out; have := Ksz.out; have := Kn12.out; simp only [List.length_append, List.length_singleton]; omega
        rw [hL13] at K13
        have KL13 := Kept.mk hL13
        have Kn13 := Kept.mk hn13
        clear ho1 hb K12 hL13 hn13
        go_wp2_with fail
        refine Calls.mono K13.out (fun e x2 hp => ?_)
        obtain ⟨v2, rfl, ho2, hb⟩ := hp
        have KB13 := Kept.mk (KB12.out.trans hb)
        have c41 := (KBl.out x2 KB13.out).cell Kok.out 9 _ rfl
        have K14 := Kept.mk (putMessage_any v2 L13 c.ms w1.heap.size x2 KB13.out.size ho2 (by have := Ksz.out; have := Kn13.out; omega))
        have KPL : Kept (pcmL c = L13 ++ [10] ++ strL c.ms) := ⟨by
          rw [KTF.out, ← KL13.out, ← KL12.out, ← KL6.out]
          unfold cmL
          simp only [List.append_assoc, List.nil_append]
          rfl⟩
        clear ho2 hb K13
        go_wp2_with fail
        refine Calls.mono K14.out (fun e x3 hp => ?_)
        obtain ⟨v3, rfl, ho3, hb⟩ := hp
        have KO3 := Kept.mk ho3
        have KB14 := Kept.mk (KB1.out.trans ((KB13.out.trans hb).mono KB1.out.size))
        clear ho3 hb K14 c41
        go_wp2
        go_ret2
        exact ⟨_, rfl, by rw [KPL.out]; exact KO3.out.mono (Nat.le_of_lt Klt.out), KB14.out⟩
  · have hEi : (ceF c != 0) = true := by simpa using hE
    rw [if_neg hE] at KTF
    generalize ceF c = TE at *
    clear KOk hE
    go_enter Tryz.func10, Tryz.ntmps10
    go_upto_region 1 with fail
    try rw [hw1]
    clear hw1
    go_wp2_with (first | (refine wpList_load_mid rfl 40 _ rfl w.heap.size 0 rfl CL _ KRg.out Tryz.underlying40 rfl KIl.out ?_))
    refine Calls.mono KT.out (fun e w2 hp => ?_)
    obtain ⟨rfl, hb2⟩ := hp
    have KB2 := Kept.mk (KB1.out.trans (hb2.mono KB1.out.size))
    clear hb2 KT
    go_wp2
    go_ret2
    exact ⟨_, rfl, by rw [KTF.out]; exact Own.nil _ _ _ _, KB2.out⟩


def wTr : List UInt8 := [116, 114, 101, 101]
def wP : List UInt8 := [112, 97, 114, 101, 110, 116]
def wA : List UInt8 := [97, 117, 116, 104, 111, 114]
def wCo : List UInt8 := [99, 111, 109, 109, 105, 116, 116, 101, 114]
def PrS : List UInt8 → List (List Int) → List UInt8 → Prop
  | t, [], t' => t' = t
  | t, p :: ps, t' => Lib.hasPrefix t (wP ++ [32]) = true ∧ p = Sh.parF ⟨(clF t wP).1.toArray⟩ ∧ PrS (clF t wP).2 ps t'
theorem PrS.snoc : ∀ {ps : List (List Int)} {t t' : List UInt8}, PrS t ps t' → Lib.hasPrefix t' (wP ++ [32]) = true → PrS t (ps ++ [Sh.parF ⟨(clF t' wP).1.toArray⟩]) (clF t' wP).2
  | [], t, t', h, hp => by
    have h : t' = t := h
    subst h
    exact ⟨hp, rfl, rfl⟩
  | p :: ps, t, t', h, hp => ⟨h.1, h.2.1, PrS.snoc h.2.2 hp⟩
theorem cl_dec {t word : List UInt8} (h : Lib.hasPrefix t (word ++ [32]) = true) : (clF t word).2.length + word.length + 1 ≤ t.length ∧ (clF t word).1.length ≤ t.length := by
  have hl : (word ++ [32]).length ≤ t.length := (List.isPrefixOf_iff_prefix.1 h).length_le
  unfold clF
  rw [if_pos h]
  have := cut_lens (t.drop (word.length + 1)) 10
  rw [List.length_drop] at this
  simp only [List.length_append, List.length_singleton] at hl
  simp only
  omega
theorem PrS.le : ∀ {ps : List (List Int)} {t t' : List UInt8}, PrS t ps t' → t'.length + ps.length ≤ t.length
  | [], t, t', h => by
    have h : t' = t := h
    subst h
    simp
  | p :: ps, t, t', h => by
    have h1 := PrS.le h.2.2
    have h2 := cl_dec h.1
    rw [List.length_cons]
    omega
structure RcT (t : List UInt8) (c : CmC) : Prop where
  out : ∃ t1, PrS (clF t wTr).2 c.ps t1 ∧ Lib.hasPrefix t1 (wP ++ [32]) = false ∧ c.tg = Sh.parF ⟨(clF t wTr).1.toArray⟩ ∧ c.ia = (prsF ⟨(clF t1 wA).1.toArray⟩).1 ∧ c.ic = (prsF ⟨(clF (clF t1 wA).2 wCo).1.toArray⟩).1 ∧ c.ms = ⟨(rmF (clF (clF t1 wA).2 wCo).2).toArray⟩
def strSzC : Value → Nat
  | .string s => s.size
  | _ => 0
theorem parF_id (s : ByteArray) : IdOk (Sh.parF s) := ⟨parF_ok s, parF_all s⟩
theorem two_cms (w : World) : ∃ w0, (w.alloc (.cells (cm0.l pv0).toArray 40)).alloc (.cells (cm0.l pv0).toArray 40) = w0 ∧ Below w.heap.size w w0 ∧ CmB w0 w.heap.size cm0 pv0 ∧ CmB w0 (w.heap.size + 1) cm0 pv0 ∧ w0.heap.size = w.heap.size + 2 := by
  refine ⟨_, rfl, ((Below.refl _ _).alloc (Nat.le_refl _) _).alloc (by simp) _, ?_, ?_, by simp⟩
  · have h0 : CmB (w.alloc (.cells (cm0.l pv0).toArray 40)) w.heap.size cm0 pv0 := heap_alloc_new w _
    exact h0.far ((Below.refl (w.heap.size + 1) _).alloc (by simp) _) (by omega)
  · have := heap_alloc_new (w.alloc (.cells (cm0.l pv0).toArray 40)) (.cells (cm0.l pv0).toArray 40)
    rwa [show (w.alloc (.cells (cm0.l pv0).toArray 40)).heap.size = w.heap.size + 1 by simp] at this
theorem OwnP.one {w : World} {base : Nat} {v : Value} {es : List (List Int)} (h : OwnP w base v es) : v.oneCell' = true := by
  rcases h.1.2 with ⟨rfl, _⟩ | ⟨g', cap, cur, rfl, hbg, hh, _⟩ <;> rfl
structure RcF (w W : World) (c : CmC) (pv : Value) : Prop where
  own : OwnP W (w.heap.size + 2) pv c.ps
  bl : CmB W (w.heap.size + 1) c pv
  b0 : CmB W w.heap.size cm0 pv0
  be : Below w.heap.size w W
  sz : w.heap.size + 2 ≤ W.heap.size
section
variable {w W W' : World} {c : CmC} {pv : Value}
theorem RcF.later (h : RcF w W c pv) (hb : Below W.heap.size W W') : RcF w W' c pv := by
  have hs := h.sz
  exact ⟨h.own.later hb (Nat.le_refl _), h.bl.far hb (by omega), h.b0.far hb (by omega), h.be.trans (hb.mono h.be.size), Nat.le_trans h.sz hb.size⟩
theorem RcF.setCells (h : RcF w W c pv) (o : Nat) (vs : List Value) {c' : CmC} (hps : c'.ps = c.ps) (hbl : CmB (W.setCells (w.heap.size + 1) o vs) (w.heap.size + 1) c' pv) : RcF w (W.setCells (w.heap.size + 1) o vs) c' pv := by
  refine ⟨?_, hbl, h.b0.others (by omega) _, Sh.below_cells (by omega) _ _ _ _ h.be, by rw [Sh.size_setCells]; exact h.sz⟩
  rw [hps]
  exact h.own.far fun g hg => by
    have hlt := (h.own.lt g hg).1
    rw [Sh.heap_setCells_far _ _ (by omega)]
theorem RcF.setCell (h : RcF w W c pv) (o : Nat) (v : Value) {c' : CmC} (hps : c'.ps = c.ps) (hbl : CmB (W.setCell ⟨w.heap.size + 1, o, none⟩ v) (w.heap.size + 1) c' pv) : RcF w (W.setCell ⟨w.heap.size + 1, o, none⟩ v) c' pv := by
  refine ⟨?_, hbl, h.b0.other (by omega) _, h.be.setCell (by show w.heap.size ≤ w.heap.size + 1; omega) _, by rw [World.size_setCell]; exact h.sz⟩
  rw [hps]
  exact h.own.far fun g hg => by
    have hlt := (h.own.lt g hg).1
    rw [Below.heap_setCell _ _ _ _ (by show g ≠ w.heap.size + 1; omega)]
end
theorem RcF.push {w x3 x4 : World} {c : CmC} {pv pv' : Value} {q : List (List Int)} (h : RcF w x3 c pv) (hok : c.ok) (hb : Below (w.heap.size + 2) x3 x4) (ho : OwnP x4 (w.heap.size + 2) pv' q) : RcF w (x4.setCell ⟨w.heap.size + 1, 32, none⟩ pv') { c with ps := q } pv' := by
  have hbl := h.bl.far hb (by omega)
  have hb0 := h.b0.far hb (by omega)
  refine ⟨ho.far fun g hg => ?_, hbl.setP hok pv' q, hb0.other (by omega) _, (h.be.trans (hb.mono (by omega))).setCell (by show w.heap.size ≤ w.heap.size + 1; omega) _, by rw [World.size_setCell]; exact Nat.le_trans h.sz hb.size⟩
  have hlt := (ho.lt g hg).1
  rw [Below.heap_setCell _ _ _ _ (by show g ≠ w.heap.size + 1; omega)]
theorem OwnP.form {w : World} {base : Nat} {v : Value} {es : List (List Int)} (h : OwnP w base v es) : ∃ a n cap, v = .slice a n cap ∧ n = es.length := by
  rcases h.1.2 with ⟨rfl, hn⟩ | ⟨g', cap, cur, rfl, hbg, hh, _⟩
  · exact ⟨none, 0, 0, rfl, hn.symm⟩
  · exact ⟨_, _, _, rfl, rfl⟩
theorem mk_cm {tg : List Int} {ps : List (List Int)} (ia ic : Idt) {ms : ByteArray} (h1 : IdOk tg) (h2 : ∀ p ∈ ps, IdOk p) (h3 : ms.size ≤ 1048576) : (CmC.mk tg ps ia ic ms).ok := ⟨h1, h2, by simp only; omega⟩
theorem rc_start {w w0 : World} (hB0 : Below w.heap.size w w0) (h0 : CmB w0 w.heap.size cm0 pv0) (h1 : CmB w0 (w.heap.size + 1) cm0 pv0) (hs : w0.heap.size = w.heap.size + 2) : RcF w w0 cm0 pv0 :=
  ⟨OwnP.nil _ _, h1, h0, hB0, by omega⟩
set_option maxHeartbeats 4000000 in
set_option maxRecDepth 100000 in
theorem readCommit_any (t : List UInt8) (w : World) (hg : Gl w) (hs : t.length ≤ 1048576) :
    Calls Tryz.prog 30 #[.string ⟨t.toArray⟩] w fun e w' => ∃ c pv, e = .returned (.agg (c.l pv).toArray) ∧ OwnP w' w.heap.size pv c.ps ∧ RcT t c ∧ c.ok ∧ Below w.heap.size w w' := by
  have KG : Kept (∀ W, Below w.heap.size w W → Gl W) := ⟨fun W hW => hg.later hW⟩
  obtain ⟨w0, hw0, hB0, hE0, hE1, hsz0⟩ := two_cms w
  have KF0 := Kept.mk (rc_start hB0 hE0 hE1 hsz0)
  have K1 := Kept.mk (cutLine_l t wTr w0 (KG.out w0 hB0) hs (by decide))
  have hl1 := clF_len t wTr
  obtain ⟨A1, hA1⟩ : ∃ A1, (clF t wTr).1 = A1 := ⟨_, rfl⟩
  obtain ⟨T1, hT1⟩ : ∃ T1, (clF t wTr).2 = T1 := ⟨_, rfl⟩
  have KA1 := Kept.mk hA1
  have KT1e := Kept.mk hT1
  rw [hA1, hT1] at K1 hl1
  have KT1 : Kept (T1.length ≤ 1048576) := ⟨by omega⟩
  clear hg hB0 hE0 hE1 hl1 hsz0 hA1 hT1 hs
  go_enter Tryz.func30, Tryz.ntmps30
  go_upto_region 2 with fail
  generalize hOb : Obj.cells (_ : Array Value) 40 = Ob
  have hOb2 : Ob = Obj.cells (cm0.l pv0).toArray 40 := by subst hOb; rfl
  subst hOb2
  clear hOb
  rw [hw0]
  clear hw0
  go_wp2_with fail
  refine Calls.mono K1.out (fun e w1 hp => ?_)
  obtain ⟨rfl, hb1⟩ := hp
  have KF1 := Kept.mk (KF0.out.later hb1)
  have K2 := Kept.mk (Sh.parse_any ⟨A1.toArray⟩ w1)
  have KID := Kept.mk (parF_id ⟨A1.toArray⟩)
  obtain ⟨IDS, hIDS⟩ : ∃ IDS, Sh.parF ⟨A1.toArray⟩ = IDS := ⟨_, rfl⟩
  have KIDe := Kept.mk hIDS
  rw [hIDS] at K2 KID
  generalize Sh.parE ⟨A1.toArray⟩ = PE at *
  clear hb1 K1 hIDS KF0
  go_wp2_with fail
  refine Calls.mono K2.out (fun e w2 hp => ?_)
  obtain ⟨rfl, hb2⟩ := hp
  have KF2 := Kept.mk (KF1.out.later hb2)
  have KTh : Kept (w2.there (w.heap.size + 1) 0 (Sh.cellsU8 IDS).toArray.size) := ⟨KF2.out.bl.thereAt cm0_ok 0 _ (by rw [List.size_toArray, Sh.cellsU8_length, KID.out.1]; omega)⟩
  have KIi : Kept ((Tryz.prog.info? 31).map (·.size) = some (Sh.cellsU8 IDS).toArray.size) := ⟨by rw [List.size_toArray, Sh.cellsU8_length, KID.out.1]; kernel_rfl⟩
  have KOi : Kept ((Sh.cellsU8 IDS).toArray.all (·.oneCell') = true) := ⟨by rw [Array.all_eq_true_iff_forall_mem]; intro x hx; exact Sh.cellsU8_one _ x (by simpa using hx)⟩
  obtain ⟨w3, hw3⟩ : ∃ w3, w2.setCells (w.heap.size + 1) 0 (Sh.cellsU8 IDS) = w3 := ⟨_, rfl⟩
  have KF3 : Kept (RcF w w3 ⟨IDS, [], idt0, idt0, ⟨#[]⟩⟩ pv0) := ⟨by rw [← hw3]; exact KF2.out.setCells 0 _ rfl (KF2.out.bl.setTg cm0_ok KID.out.1)⟩
  have Kw3 := Kept.mk hw3
  clear hb2 K2 hw3 KF1
  obtain ⟨CI, hCI⟩ : ∃ CI, Sh.cellsU8 IDS = CI := ⟨_, rfl⟩
  rw [hCI] at KTh KIi KOi Kw3
  rw [hCI]
  clear hCI
  go_wp2_with (first | (refine wpList_store_mid rfl 31 _ _ rfl (w.heap.size + 1) 0 CI.toArray rfl rfl KTh.out KIi.out KOi.out ?_; rw [Kw3.out]))
  clear KTh KIi KOi Kw3 KF2
  simp only [Act.put]
  go_loopw [0] (fun tv wr => ∃ (t' : List UInt8) (ps : List (List Int)) (pv : Value), tv = .string ⟨t'.toArray⟩ ∧ PrS T1 ps t' ∧ (∀ p ∈ ps, IdOk p) ∧ RcF w wr ⟨IDS, ps, idt0, idt0, ⟨#[]⟩⟩ pv) (fun tv _ => strSzC tv)
  case atStart => exact ⟨T1, [], pv0, rfl, rfl, (fun _ h => by cases h), KF3.out⟩
  case round =>
    obtain ⟨t', ps, pv, rfl, hps, hpo, hF⟩ := hrel
    have KF := Kept.mk hF
    have KP := Kept.mk hps
    have KPo := Kept.mk hpo
    have hle := hps.le
    have Kt' : Kept (t'.length ≤ 1048576 ∧ ps.length ≤ 1048576) := ⟨by have := KT1.out; omega⟩
    have KH := Kept.mk (Tryz.strings_HasPrefix ⟨t'.toArray⟩ ⟨#[112, 97, 114, 101, 110, 116, 32]⟩ wr)
    have hhe : Lib.hasPrefix (⟨t'.toArray⟩ : ByteArray).data.toList (⟨#[112, 97, 114, 101, 110, 116, 32]⟩ : ByteArray).data.toList = Lib.hasPrefix t' (wP ++ [32]) := rfl
    rw [hhe] at KH
    clear KF3 hF hps hpo hle hhe
    cases hq : Lib.hasPrefix t' (wP ++ [32]) with
    | true =>
      rw [hq] at KH
      have hde := cl_dec hq
      have KSn := Kept.mk (KP.out.snoc hq)
      have K5 : Kept (∀ W, Gl W → _) := ⟨fun W hW => cutLine_l t' wP W hW Kt'.out.1 (by decide)⟩
      obtain ⟨A5, hA5⟩ : ∃ A5, (clF t' wP).1 = A5 := ⟨_, rfl⟩
      obtain ⟨T5, hT5⟩ : ∃ T5, (clF t' wP).2 = T5 := ⟨_, rfl⟩
      rw [hA5, hT5] at hde KSn K5
      have KT5 : Kept (T5.length < t'.length) := ⟨by omega⟩
      have KID5 := Kept.mk (parF_id ⟨A5.toArray⟩)
      obtain ⟨ID5, hID5⟩ : ∃ ID5, Sh.parF ⟨A5.toArray⟩ = ID5 := ⟨_, rfl⟩
      have K6 : Kept (∀ W, Calls Tryz.prog 62 #[.string ⟨A5.toArray⟩] W fun e w' => e = .returned (.tuple #[.agg (cellsK .u8 ID5).toArray, .int .i64 (Sh.parE ⟨A5.toArray⟩)]) ∧ Below W.heap.size W w') := ⟨fun W => by rw [← hID5]; exact Sh.parse_any ⟨A5.toArray⟩ W⟩
      rw [hID5] at KSn KID5
      generalize Sh.parE ⟨A5.toArray⟩ = PE5 at *
      clear hde hA5 hT5 hID5 hq
      go_wp2_with fail
      refine Calls.mono KH.out (fun e wr' hp => ?_)
      obtain ⟨rfl, hw⟩ := hp
      have hw := hw.symm
      subst hw
      clear KH
      have K5 := Kept.mk (K5.out wr (KG.out wr KF.out.be))
      go_wp2_with fail
      refine Calls.mono K5.out (fun e w5 hp => ?_)
      obtain ⟨rfl, hb⟩ := hp
      have KF5 := Kept.mk (KF.out.later hb)
      clear hb K5 KF
      go_wp2_with fail
      refine Calls.mono (K6.out w5) (fun e w6 hp => ?_)
      obtain ⟨rfl, hb⟩ := hp
      have KF6 := Kept.mk (KF5.out.later hb)
      clear hb K6 KF5
      have KIk := Kept.mk (id_infoL KID5.out)
      have KIk2 : Kept ((Tryz.prog.info? 31).map (·.size) = some (cellsK .u8 ID5).toArray.size) := ⟨by rw [List.size_toArray]; exact KIk.out⟩
      have KOk2 : Kept ((cellsK .u8 ID5).toArray.all (·.oneCell') = true) := ⟨all_oneCell_toArray (cellsK_one _ _)⟩
      have KSk : Kept ((cellsK .u8 ID5).toArray.size = 32) := ⟨by rw [List.size_toArray, cellsK_length]; exact KID5.out.1⟩
      have KLk : Kept ((cellsK .u8 ID5).length = 32) := ⟨by rw [cellsK_length]; exact KID5.out.1⟩
      obtain ⟨x2, hx2, hBx, hrx⟩ : ∃ x2, w6.alloc (.cells (cellsK .u8 ID5).toArray 31) = x2 ∧ Below w6.heap.size w6 x2 ∧ x2.rangeAt w6.heap.size 0 (cellsK .u8 ID5) := ⟨_, rfl, (Below.refl _ _).alloc (Nat.le_refl _) _, fun j u hu => by
        rw [Nat.zero_add, cell_of_row _ _ j _ 31 (0, 0) (heap_alloc_new w6 _)]
        simpa using hu⟩
      obtain ⟨x3, hx3, hBx3, hrx3⟩ : ∃ x3, x2.alloc (.cells (cellsK .u8 ID5).toArray 31) = x3 ∧ Below x2.heap.size x2 x3 ∧ x3.rangeAt x2.heap.size 0 (cellsK .u8 ID5) := ⟨_, rfl, (Below.refl _ _).alloc (Nat.le_refl _) _, fun j u hu => by
        rw [Nat.zero_add, cell_of_row _ _ j _ 31 (0, 0) (heap_alloc_new x2 _)]
        simpa using hu⟩
      have KFx := Kept.mk (KF6.out.later hBx)
      have KFx3 := Kept.mk (KFx.out.later hBx3)
      have KRx := Kept.mk hrx
      have KRx3 := Kept.mk hrx3
      have c32 := KFx.out.bl.cell (c := ⟨IDS, ps, idt0, idt0, ⟨#[]⟩⟩) (mk_cm _ _ KID.out KPo.out e_le) 0 _ rfl
      have KOw := Kept.mk KFx3.out.own
      have Kbs : Kept (w.heap.size + 2 ≤ x3.heap.size) := ⟨KFx3.out.sz⟩
      have KxE : Kept (x2.alloc (.cells (cellsK .u8 ID5).toArray 31) = x3) := ⟨hx3⟩
      clear hBx hrx hBx3 hrx3 KF6 hx3
      have hIDc : (cellsK .u8 ID5 : List Value) = cellsK .u8 ID5 := rfl
      obtain ⟨PK, hPK⟩ : ∃ PK, cellsK .u8 ID5 = PK := ⟨_, rfl⟩
      have KPK := Kept.mk hPK
      rw [hPK] at KIk KIk2 KOk2 KSk KLk hx2 KRx KxE
      rw [hPK]
      clear hPK hIDc
      go_upto_region 7 with (first | (refine BigFrame.wpList_want rfl (fun K hK => wp_store_row 31 _ _ rfl w6.heap.size PK.toArray rfl rfl 31 _ (heap_alloc_new w6 _) KIk2.out (by rw [KSk.out]; rfl) KOk2.out (hK _ _ ?_)); rw [World.setRow_alloc_new]))
      try rw [hx2]
      clear hx2
      go_wp2_with (first | (refine wpList_load_mid rfl 31 _ rfl w6.heap.size 0 rfl PK _ KRx.out Tryz.underlying31 rfl KIk.out ?_) | (refine wpList_sliceP rfl _ rfl PK KLk.out rfl ?_; rw [KxE.out]) | (at_builtin; refine wpList_append_P _ rfl _ _ rfl (w.heap.size + 2) pv ps rfl KOw.out ID5 KID5.out x2.heap.size 1 rfl KRx3.out (by have := Kt'.out; omega) Kbs.out ?_; intro pv' x4 ho4 hg4; obtain ⟨pa', n', cap', rfl, hn'⟩ := ho4.form; have hB4 : Below (w.heap.size + 2) x3 x4 := (Below.refl _ x3).grown hg4 Kbs.out (fun q hq => (KOw.out.lt q hq).1); have KFy := Kept.mk (KFx3.out.push (mk_cm _ _ KID.out KPo.out e_le) hB4 ho4); have d32 := (KFx3.out.bl.far hB4 (by omega)).cell (c := ⟨IDS, ps, idt0, idt0, ⟨#[]⟩⟩) (mk_cm _ _ KID.out KPo.out e_le) 0 _ rfl; have f32 := (KFx3.out.bl.far hB4 (by omega)).frozen 32; clear ho4 hg4 hB4 hn'))
      clear d32 f32 c32
      have KPo2 : Kept (∀ p ∈ ps ++ [ID5], IdOk p) := ⟨fun p hp => by
        rcases List.mem_append.1 hp with hp | hp
        · exact KPo.out p hp
        · rw [List.mem_singleton.1 hp]; exact KID5.out⟩
      go_roundw
      case rel => exact ⟨T5, ps ++ [ID5], _, rfl, KSn.out, KPo2.out, KFy.out⟩
      case measure => simp only [strSzC, sz_mk]; exact KT5.out
    | false =>
      rw [hq] at KH
      have Kq := Kept.mk hq
      have K6 : Kept (∀ W, Gl W → _) := ⟨fun W hW => cutLine_l t' wA W hW Kt'.out.1 (by decide)⟩
      have hl6 := clF_len t' wA
      obtain ⟨A6, hA6⟩ : ∃ A6, (clF t' wA).1 = A6 := ⟨_, rfl⟩
      obtain ⟨T6, hT6⟩ : ∃ T6, (clF t' wA).2 = T6 := ⟨_, rfl⟩
      rw [hA6, hT6] at hl6 K6
      have Kl6 : Kept (A6.length ≤ 1048576 ∧ T6.length ≤ 1048576) := ⟨by have := Kt'.out; omega⟩
      have K8 : Kept (∀ W, Gl W → _) := ⟨fun W hW => cutLine_l T6 wCo W hW Kl6.out.2 (by decide)⟩
      have hl8 := clF_len T6 wCo
      obtain ⟨A8, hA8⟩ : ∃ A8, (clF T6 wCo).1 = A8 := ⟨_, rfl⟩
      obtain ⟨T8, hT8⟩ : ∃ T8, (clF T6 wCo).2 = T8 := ⟨_, rfl⟩
      rw [hA8, hT8] at hl8 K8
      have Kl8 : Kept (A8.length ≤ 1048576 ∧ T8.length ≤ 1048576) := ⟨by have := Kl6.out; omega⟩
      have KR : Kept (RcT t ⟨IDS, ps, (prsF ⟨A6.toArray⟩).1, (prsF ⟨A8.toArray⟩).1, ⟨(rmF T8).toArray⟩⟩) := ⟨⟨t', by rw [KT1e.out]; exact KP.out, hq, by rw [KA1.out, KIDe.out], by rw [hA6], by rw [hT6, hA8], by rw [hT6, hT8]⟩⟩
      have hmsz : (⟨(rmF T8).toArray⟩ : ByteArray).size ≤ 1048576 := by rw [sz_mk]; exact Nat.le_trans (rmF_len T8) Kl8.out.2
      have KPI6 : Kept (∀ W, Gl W → Calls Tryz.prog 64 #[.string ⟨A6.toArray⟩] W fun e w' => e = .returned (.tuple #[.agg (igL (prsF ⟨A6.toArray⟩).1).toArray, .int .i64 (prsF ⟨A6.toArray⟩).2]) ∧ Below W.heap.size W w') := ⟨fun W hW => parseIdent_any ⟨A6.toArray⟩ W hW (by rw [sz_mk]; have := Kl6.out; omega)⟩
      have KPI8 : Kept (∀ W, Gl W → Calls Tryz.prog 64 #[.string ⟨A8.toArray⟩] W fun e w' => e = .returned (.tuple #[.agg (igL (prsF ⟨A8.toArray⟩).1).toArray, .int .i64 (prsF ⟨A8.toArray⟩).2]) ∧ Below W.heap.size W w') := ⟨fun W hW => parseIdent_any ⟨A8.toArray⟩ W hW (by rw [sz_mk]; have := Kl8.out; omega)⟩
      have KM : Kept (∀ W, Calls Tryz.prog 65 #[.string ⟨T8.toArray⟩] W fun e w' => e = .returned (.string ⟨(rmF T8).toArray⟩) ∧ Below W.heap.size W w') := ⟨fun W => readMessage_any ⟨T8.toArray⟩ W (by rw [sz_mk]; exact Kl8.out.2)⟩
      obtain ⟨MS, hMS⟩ : ∃ MS : ByteArray, ⟨(rmF T8).toArray⟩ = MS := ⟨_, rfl⟩
      rw [hMS] at KR hmsz KM
      have Kmsz := Kept.mk hmsz
      generalize (prsF ⟨A6.toArray⟩).2 = E6 at *
      generalize (prsF ⟨A8.toArray⟩).2 = E8 at *
      generalize (prsF ⟨A6.toArray⟩).1 = ia at *
      generalize (prsF ⟨A8.toArray⟩).1 = ic at *
      clear hq hl6 hl8 hA6 hT6 hA8 hT8 hMS hmsz
      go_wp2_with fail
      refine Calls.mono KH.out (fun e wr' hp => ?_)
      obtain ⟨rfl, hw⟩ := hp
      have hw := hw.symm
      subst hw
      clear KH
      have K6 := Kept.mk (K6.out wr (KG.out wr KF.out.be))
      go_wp2_with fail
      refine Calls.mono K6.out (fun e w6 hp => ?_)
      obtain ⟨rfl, hb⟩ := hp
      have KF6 := Kept.mk (KF.out.later hb)
      clear hb K6 KF
      have K7 := Kept.mk (KPI6.out w6 (KG.out w6 KF6.out.be))
      have KIa := Kept.mk (igL_info ia)
      have KIa2 : Kept ((Tryz.prog.info? 38).map (·.size) = some (igL ia).toArray.size) := ⟨by rw [List.size_toArray]; exact KIa.out⟩
      have KOa := Kept.mk (igL_all ia)
      obtain ⟨IA, hIA⟩ : ∃ IA, igL ia = IA := ⟨_, rfl⟩
      have KIA := Kept.mk hIA
      rw [hIA] at K7 KIa KIa2 KOa
      clear hIA KPI6
      go_wp2_with fail
      refine Calls.mono K7.out (fun e w7 hp => ?_)
      obtain ⟨rfl, hb⟩ := hp
      have KF7 := Kept.mk (KF6.out.later hb)
      have KTa : Kept (w7.there (w.heap.size + 1) 33 IA.toArray.size) := ⟨KF7.out.bl.thereAt (mk_cm _ _ KID.out KPo.out e_le) 33 _ (by rw [← KIA.out]; show 33 + 4 ≤ 42; omega)⟩
      obtain ⟨w8, hw8⟩ : ∃ w8, w7.setCells (w.heap.size + 1) 33 IA = w8 := ⟨_, rfl⟩
      have KF8 : Kept (RcF w w8 ⟨IDS, ps, ia, idt0, ⟨#[]⟩⟩ pv) := ⟨by rw [← hw8, ← KIA.out]; exact KF7.out.setCells 33 _ rfl (KF7.out.bl.setIa (mk_cm _ _ KID.out KPo.out e_le) ia)⟩
      have Kw8 := Kept.mk hw8
      have K9 := Kept.mk (K8.out w8 (KG.out w8 KF8.out.be))
      clear hb K7 KF6 hw8 KF7 K8
      go_wp2_with (first | (refine wpList_store_mid rfl 38 _ _ rfl (w.heap.size + 1) 33 IA.toArray rfl rfl KTa.out KIa2.out KOa.out ?_; rw [Kw8.out]))
      refine Calls.mono K9.out (fun e w9 hp => ?_)
      obtain ⟨rfl, hb⟩ := hp
      have KF9 := Kept.mk (KF8.out.later hb)
      clear hb K9 KF8 KTa Kw8
      have K10 := Kept.mk (KPI8.out w9 (KG.out w9 KF9.out.be))
      have KIc2 : Kept ((Tryz.prog.info? 38).map (·.size) = some (igL ic).toArray.size) := ⟨by rw [List.size_toArray]; exact igL_info ic⟩
      have KOc := Kept.mk (igL_all ic)
      obtain ⟨IC, hIC⟩ : ∃ IC, igL ic = IC := ⟨_, rfl⟩
      have KIC := Kept.mk hIC
      rw [hIC] at K10 KIc2 KOc
      clear hIC KPI8
      go_wp2_with fail
      refine Calls.mono K10.out (fun e w10 hp => ?_)
      obtain ⟨rfl, hb⟩ := hp
      have KF10 := Kept.mk (KF9.out.later hb)
      have KTc : Kept (w10.there (w.heap.size + 1) 37 IC.toArray.size) := ⟨KF10.out.bl.thereAt (mk_cm _ _ KID.out KPo.out e_le) 37 _ (by rw [← KIC.out]; show 37 + 4 ≤ 42; omega)⟩
      obtain ⟨w11, hw11⟩ : ∃ w11, w10.setCells (w.heap.size + 1) 37 IC = w11 := ⟨_, rfl⟩
      have KF11 : Kept (RcF w w11 ⟨IDS, ps, ia, ic, ⟨#[]⟩⟩ pv) := ⟨by rw [← hw11, ← KIC.out]; exact KF10.out.setCells 37 _ rfl (KF10.out.bl.setIc (mk_cm _ _ KID.out KPo.out e_le) ic)⟩
      have Kw11 := Kept.mk hw11
      clear hb K10 KF9 hw11 KF10
      go_wp2_with (first | (refine wpList_store_mid rfl 38 _ _ rfl (w.heap.size + 1) 37 IC.toArray rfl rfl KTc.out KIc2.out KOc.out ?_; rw [Kw11.out]))
      refine Calls.mono (KM.out w11) (fun e w12 hp => ?_)
      obtain ⟨rfl, hb⟩ := hp
      have KF12 := Kept.mk (KF11.out.later hb)
      have c41 := KF12.out.bl.cell (mk_cm _ _ KID.out KPo.out e_le) 9 _ rfl
      have f41 := KF12.out.bl.frozen 41
      obtain ⟨w13, hw13⟩ : ∃ w13, w12.setCell ⟨w.heap.size + 1, 41, none⟩ (.string MS) = w13 := ⟨_, rfl⟩
      have KF13 : Kept (RcF w w13 ⟨IDS, ps, ia, ic, MS⟩ pv) := ⟨by rw [← hw13]; exact KF12.out.setCell 41 _ rfl (KF12.out.bl.setMs (mk_cm _ _ KID.out KPo.out e_le) MS)⟩
      have hokR : (CmC.mk IDS ps ia ic MS).ok := mk_cm _ _ KID.out KPo.out Kmsz.out
      have Kok := Kept.mk hokR
      clear hb KF12 KM KF11 Kw11 KTc
      generalize CmC.mk IDS ps ia ic MS = R at *
      have KRg := Kept.mk KF13.out.bl.range
      have KIl : Kept ((Tryz.prog.info? 40).map (·.size) = some (R.l pv).length) := ⟨cm_info hokR⟩
      have KIl2 : Kept ((Tryz.prog.info? 40).map (·.size) = some (R.l pv).toArray.size) := ⟨cm_info2 hokR⟩
      have KTh0 : Kept (w13.there w.heap.size 0 (R.l pv).toArray.size) := ⟨KF13.out.b0.thereAt cm0_ok 0 _ (by rw [List.size_toArray, CmC.len hokR]; omega)⟩
      have KOl : Kept ((R.l pv).toArray.all (·.oneCell') = true) := ⟨CmC.all KF13.out.own.one⟩
      have KFin := Kept.mk (KF13.out.b0.over cm0_ok (d := R) (qv := pv) hokR)
      unfold CmB at KFin
      have KBf := Kept.mk (Sh.below_cells (b := w.heap.size) (Nat.le_refl _) (R.l pv) 0 w w13 KF13.out.be)
      have KOw : Kept (OwnP (w13.setCells w.heap.size 0 (R.l pv)) w.heap.size pv R.ps) := ⟨(KF13.out.own.far fun g hg => by
        have hlt := (KF13.out.own.lt g hg).1
        rw [Sh.heap_setCells_far _ _ (by omega)]).mono (by omega)⟩
      obtain ⟨RL, hRL⟩ : ∃ RL, R.l pv = RL := ⟨_, rfl⟩
      have KRL := Kept.mk hRL
      rw [hRL] at KRg KIl KIl2 KTh0 KOl KFin KBf KOw
      clear hRL hokR
      go_wp2_with (first | (refine wpList_load_mid rfl 40 _ rfl (w.heap.size + 1) 0 rfl RL _ KRg.out Tryz.underlying40 rfl KIl.out ?_) | (refine wpList_store_mid rfl 40 _ _ rfl w.heap.size 0 RL.toArray rfl rfl KTh0.out KIl2.out KOl.out ?_) | (rw [hw13]))
      refine bodyPost_ret (v := .agg RL.toArray) (results_cell_row (p := 2) (ty := 40) Tryz.results30 _ _ w.heap.size 40 _ (0, 0) _ rfl KFin.out Tryz.underlying40 rfl KIl2.out) rfl ⟨R, pv, by rw [KRL.out], KOw.out, KR.out, Kok.out, KBf.out⟩
end Go.Proofs.YtkbalngddlhlpaaGreatDoor
