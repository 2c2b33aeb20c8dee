/-
  Walks: the document's Three.
-/
import Derived.Test.YtidpdhnbnecddaaM20
import Derived.Lib.ConvBytes
namespace Go.Proofs.Ytidpdhnbnecddaa
open Go.RowKit Go.Shelf

theorem nms_sn {T : List Int} (h : AllB T) : nms (strOfNums T) = T := by
  have e : (strOfNums T).data.toList = T.map fun n => UInt8.ofNat n.toNat := by simp [strOfNums]
  unfold nms
  rw [e, List.map_map]
  refine (List.map_congr_left (fun x hx => ?_)).trans (List.map_id T)
  have := h x hx
  simp only [Function.comp, UInt8.toNat_ofNat', id]
  omega
/-- '[]byte(text)', read. -/
theorem bytes_sn (w : World) (T : List Int) (hT : AllB T) (hl : T.length ≤ 70368744177664) : ∃ W v, (convert 9 22 (.string (strOfNums T))).run Try.prog w = .ok v W ∧ Rd .u8 anyB W v T ∧ Below w.heap.size w W := by
  have hs : (strOfNums T).size = T.length := sn_size T
  have hge := grownCap_ge w (strOfNums T).size 0 5
  have hle := grownCap_le_maxLen w (strOfNums T).size 0 5 (by unfold maxLen; omega)
  have hsz : (Lib.bytesCells w 5 (strOfNums T)).size = grownCap w (strOfNums T).size 0 5 := by
    unfold Lib.bytesCells
    rw [Array.size_append, Array.size_map, Array.size_replicate]
    show (strOfNums T).size + _ = _
    omega
  have hrow := Lib.bytesWorld_at_new w 5 (strOfNums T)
  have htk : (Lib.bytesCells w 5 (strOfNums T)).toList.take (strOfNums T).size = cellsK .u8 T := by
    unfold Lib.bytesCells
    rw [Array.toList_append, List.take_append_of_le_length (by rw [Array.length_toList, Array.size_map]; exact Nat.le_refl _)]
    rw [List.take_of_length_le (by rw [Array.length_toList, Array.size_map]; exact Nat.le_refl _), Array.toList_map]
    have h := strCells_nms (strOfNums T)
    rw [nms_sn hT] at h
    rw [← h]
    rfl
  refine ⟨Lib.bytesWorld w 5 (strOfNums T), _, Lib.run_convert_string_bytes w 9 22 5 (strOfNums T) Try.underlying9 Try.underlying22 Try.underlying5, ?_, ?_⟩
  · refine ⟨some ⟨w.heap.size, 0, none⟩, grownCap w (strOfNums T).size 0 5, by rw [hs], by rw [← hs]; exact hge, hle, (fun h => by cases h), fun _ => ⟨w.heap.size, 0, rfl, by rw [Lib.bytesWorld_size]; omega, trivial, fun i hi => ?_⟩⟩
    rw [Nat.zero_add, cell_of_row _ w.heap.size i _ _ _ hrow]
    have h1 := congrArg (fun l : List Value => l[i]?) htk
    rw [List.getElem?_take_of_lt (by omega), Array.getElem?_toList] at h1
    rw [h1]
    unfold cellsK
    rw [List.getElem?_map, List.getElem?_eq_getElem hi]
    simp [List.getD, List.getElem?_eq_getElem hi]
  · exact ⟨rfl, rfl, rfl, by rw [Lib.bytesWorld_size]; omega, fun k hk => Lib.bytesWorld_at_old w 5 (strOfNums T) k hk⟩
theorem clsd_all (L : List ByteArray) : AllB (clsd L) := by
  unfold clsd
  split
  · exact AllIn.nil
  · unfold endd
    split
    · exact jnd_all L
    · exact (jnd_all L).append (AllIn.one (by omega) (by omega))
theorem pcR_all (l0 l1 : ByteArray) (p : Pc) : AllB (pcR l0 l1 p).1 := by
  unfold pcR
  split
  · exact jnd_all _
  · unfold pcT
    exact ((((((nms_all _).append (clsd_all _)).append (nms_all _)).append (clsd_all _)).append (nms_all _)).append (clsd_all _)).append (nms_all _)
theorem pcR_len {l0 l1 : ByteArray} {O A B : List ByteArray} (p : Pc) (h : PcOk O A B p) (h0 : l0.size ≤ 100) (h1 : l1.size ≤ 100) (jO : (jnd O).length ≤ 1048576) (jA : (jnd A).length ≤ 1048576) (jB : (jnd B).length ≤ 1048576) : (pcR l0 l1 p).1.length ≤ 3150000 ∧ (pcR l0 l1 p).2 ≤ 1 := by
  have h' := h
  obtain ⟨a1, a2, a3, -⟩ := h
  cases hs : setF p with
  | some L =>
    have := (setF_len h' hs).1
    have e : pcR l0 l1 p = (jnd L, 0) := by unfold pcR; rw [hs]
    rw [e]
    simp only
    omega
  | none =>
    have e : pcR l0 l1 p = (pcT l0 l1 p, 1) := by unfold pcR; rw [hs]
    have hc := clash_len [] l0 l1 p.1 p.2.1 p.2.2
    rw [clash_pc, List.nil_append] at hc
    rw [e]
    simp only [List.length_nil] at hc ⊢
    omega
theorem sg_all (L : List ByteArray) (lo : Nat) : sg L lo L.length = L.drop lo := by
  unfold sg
  exact List.take_of_length_le (by rw [List.length_drop]; exact Nat.le_refl _)
theorem sg_ok (O A B : List ByteArray) (a b c d e f : Nat) : PcOk O A B (sg O a b, sg A c d, sg B e f) := ⟨jnd_sg _ _ _, jnd_sg _ _ _, jnd_sg _ _ _, sg_len _ _ _, sg_len _ _ _, sg_len _ _ _⟩
/-- Where the document's Three stands: what it has put together, and what is left. -/
def DcL (l0 l1 : ByteArray) (O A B : List ByteArray) (X Y : List Int) (R : List Int × Nat) (T : List Int) (c x i j k : Nat) : Prop :=
  (x ≤ O.length ∧ CtI A B X Y x i j k ∧ (T ++ (dcG l0 l1 O A B X Y (O.length - x) x i j k).1, c + (dcG l0 l1 O A B X Y (O.length - x) x i j k).2) = R) ∨ (x = O.length + 1 ∧ (T, c) = R)
/-- What the document's Three answers. -/
def DtE (w : World) (R : List Int × Nat) (e : Ending) (w' : World) : Prop := ∃ v, e = .returned (.tuple #[v, .int .i64 R.2]) ∧ Rd .u8 anyB w' v R.1 ∧ AllB R.1 ∧ R.1.length ≤ 8000000000 ∧ Below w.heap.size w w'
set_option maxHeartbeats 4000000 in
set_option maxRecDepth 100000 in
theorem docThree_any (v0 v1 v2 : Value) (x0 x1 x2 : List Int) (l0 l1 : ByteArray) (w : World) (h0 : Rd .u8 anyB w v0 x0) (h1 : Rd .u8 anyB w v1 x1) (h2 : Rd .u8 anyB w v2 x2)
    (z0 : x0.length ≤ 1048576) (z1 : x1.length ≤ 1048576) (z2 : x2.length ≤ 1048576) (y0 : (lnS x0).length ≤ 1000) (y1 : (lnS x1).length ≤ 1000) (y2 : (lnS x2).length ≤ 1000) (s0 : l0.size ≤ 100) (s1 : l1.size ≤ 100) :
    Calls Try.prog 28 #[v0, v1, v2, .agg #[.string l0, .string l1]] w fun e w' => DtE w (dcP l0 l1 (lnS x0) (lnS x1) (lnS x2)) e w' := by
  have hba := (Below.refl w.heap.size w).alloc (Nat.le_refl _) (.cells #[.string l0, .string l1] 23)
  obtain ⟨b0, b1⟩ := box2 (w := w) (x := .string l0) (y := .string l1) (T := 23)
  have hlb : ∀ W, CC (w.alloc (.cells #[.string l0, .string l1] 23)) W → W.rangeAt w.heap.size 0 [.string l0, .string l1] ∧ Below w.heap.size w W := fun W hW => ⟨fun j u hu => by
    match j, hu with
    | 0, hu => simp at hu; subst hu; rw [Below.cell hW (by simp)]; exact b0
    | 1, hu => simp at hu; subst hu; rw [Below.cell hW (by simp)]; exact b1, hba.trans (Below.mono hW hba.size)⟩
  have K0 := Kept.mk h0
  have K1 := Kept.mk h1
  have K2 := Kept.mk h2
  obtain ⟨pa, ca, rfl, -⟩ := h0.form
  obtain ⟨pb, cb, rfl, -⟩ := h1.form
  obtain ⟨pd, cd, rfl, -⟩ := h2.form
  have Kz : Kept (x0.length ≤ 1048576 ∧ x1.length ≤ 1048576 ∧ x2.length ≤ 1048576 ∧ (lnS x0).length ≤ 1000 ∧ (lnS x1).length ≤ 1000 ∧ (lnS x2).length ≤ 1000 ∧ l0.size ≤ 100 ∧ l1.size ≤ 100) := ⟨⟨z0, z1, z2, y0, y1, y2, s0, s1⟩⟩
  have Klb := Kept.mk hlb
  clear h0 h1 h2 z0 z1 z2 y0 y1 y2 s0 s1 hlb hba b0 b1
  go_enter Try.func28, Try.ntmps28
  go_upto_region 1 with fail
  obtain ⟨wa, hwa⟩ : ∃ wa, w.alloc (.cells #[.string l0, .string l1] 23) = wa := ⟨_, rfl⟩
  rw [hwa] at Klb ⊢
  clear hwa
  have KL0 := Kept.mk (docLines_any _ x0 wa (K0.out.later (Klb.out wa (CC.refl _)).2 (Nat.le_refl _)) (by have := Kz.out; omega))
  go_wp2_with fail
  refine Calls.mono KL0.out (fun e w2 hp => ?_)
  obtain ⟨q0, rfl, ho0, hb2⟩ := hp
  have C2 : Kept (CC wa w2) := ⟨hb2⟩
  have KO0 := Kept.mk ho0
  have KL1 := Kept.mk (docLines_any _ x1 w2 (K1.out.later (Klb.out w2 C2.out).2 (Nat.le_refl _)) (by have := Kz.out; omega))
  clear ho0 hb2 KL0
  go_wp2_with fail
  refine Calls.mono KL1.out (fun e w3 hp => ?_)
  obtain ⟨q1, rfl, ho1, hb3⟩ := hp
  have C3 : Kept (CC wa w3) := ⟨C2.out.on hb3⟩
  have KO0 := Kept.mk (KO0.out.later hb3 (Nat.le_refl _))
  have KO1 := Kept.mk ho1
  have KL2 := Kept.mk (docLines_any _ x2 w3 (K2.out.later (Klb.out w3 C3.out).2 (Nat.le_refl _)) (by have := Kz.out; omega))
  clear ho1 hb3 KL1 C2
  go_wp2_with fail
  refine Calls.mono KL2.out (fun e w4 hp => ?_)
  obtain ⟨q2, rfl, ho2, hb4⟩ := hp
  have C4 : Kept (CC wa w4) := ⟨C3.out.on hb4⟩
  have KO0 := Kept.mk (KO0.out.later hb4 (Nat.le_refl _))
  have KO1 := Kept.mk (KO1.out.later hb4 (Nat.le_refl _))
  have KO2 := Kept.mk ho2
  clear ho2 hb4 KL2 C3 K0 K1 K2
  have jO := jnd_lnS x0
  have jA := jnd_lnS x1
  have jB := jnd_lnS x2
  have KJ : Kept ((jnd (lnS x0)).length ≤ 1048576 ∧ (jnd (lnS x1)).length ≤ 1048576 ∧ (jnd (lnS x2)).length ≤ 1048576 ∧ (lnS x0).length ≤ 1000 ∧ (lnS x1).length ≤ 1000 ∧ (lnS x2).length ≤ 1000 ∧ l0.size ≤ 100 ∧ l1.size ≤ 100) := ⟨by have := Kz.out; omega⟩
  clear jO jA jB Kz
  generalize hO : lnS x0 = O at *
  generalize hA : lnS x1 = A at *
  generalize hB : lnS x2 = B at *
  have KeO := Kept.mk hO
  have KeA := Kept.mk hA
  have KeB := Kept.mk hB
  clear hO hA hB
  obtain ⟨po, co, hq0⟩ := KO0.out.form
  obtain ⟨pe, ce, hq1⟩ := KO1.out.form
  obtain ⟨pf, cf, hq2⟩ := KO2.out.form
  subst hq0 hq1 hq2
  have KRd : Kept (∀ W, CC w4 W → RdS W (.slice po O.length co) O ∧ RdS W (.slice pe A.length ce) A ∧ RdS W (.slice pf B.length cf) B) := ⟨fun W hW => ⟨(KO0.out.later hW (Nat.le_refl _)).rd, (KO1.out.later hW (Nat.le_refl _)).rd, (KO2.out.later hW (Nat.le_refl _)).rd⟩⟩
  have Kcc : Kept (O.length ≤ co ∧ A.length ≤ ce ∧ B.length ≤ cf) := ⟨by
    obtain ⟨r1, r2, r3⟩ := KRd.out w4 (CC.refl _)
    exact ⟨lines_cap r1, lines_cap r2, lines_cap r3⟩⟩
  have K5 := Kept.mk (stays_any _ _ O A w4 (KRd.out w4 (CC.refl _)).1 (KRd.out w4 (CC.refl _)).2.1 KJ.out.2.2.2.1 KJ.out.2.2.2.2.1)
  clear KO0 KO1 KO2
  go_wp2_with fail
  refine Calls.mono K5.out (fun e w5 hp => ?_)
  obtain ⟨g1, hg1, rfl, hk1, hb5⟩ := hp
  have C5 : Kept (CC w4 w5) := ⟨hb5⟩
  have Kk1 := Kept.mk hk1
  have K6 := Kept.mk (stays_any _ _ O B w5 (KRd.out w5 C5.out).1 (KRd.out w5 C5.out).2.2 KJ.out.2.2.2.1 KJ.out.2.2.2.2.2.1)
  clear K5 hk1 hb5 hg1
  go_wp2_with fail
  refine Calls.mono K6.out (fun e w6 hp => ?_)
  obtain ⟨g2, hg2, rfl, hk2, hb6⟩ := hp
  have C6 : Kept (CC w4 w6) := ⟨C5.out.on hb6⟩
  have Kk1 := Kept.mk (Kk1.out.far (hb6.block g1 Kk1.out.lt))
  have Kk2 := Kept.mk hk2
  have KX := Kept.mk (plP_ok O A)
  have KY := Kept.mk (plP_ok O B)
  have KXl := Kept.mk (plP_len O A)
  have KYl := Kept.mk (plP_len O B)
  have KR0 : Kept (dcG l0 l1 O A B (plP O A) (plP O B) O.length 0 0 0 0 = dcP l0 l1 O A B) := ⟨rfl⟩
  clear K6 hk2 hb6 hg2 C5
  generalize plP O A = X at *
  generalize plP O B = Y at *
  obtain ⟨R, hR⟩ : ∃ R, dcP l0 l1 O A B = R := ⟨_, rfl⟩
  rw [hR] at KR0
  have KR := Kept.mk hR
  clear hR
  have KF : Kept (∀ W, CC w6 W → RdS W (.slice po O.length co) O ∧ RdS W (.slice pe A.length ce) A ∧ RdS W (.slice pf B.length cf) B ∧ Bk W g1 3 (cellsK .i64 X) ∧ Bk W g2 3 (cellsK .i64 Y) ∧ W.rangeAt w.heap.size 0 [.string l0, .string l1] ∧ Below w.heap.size w W) := ⟨fun W hW => by
    have hW4 : CC w4 W := C6.out.on hW
    obtain ⟨r1, r2, r3⟩ := KRd.out W hW4
    obtain ⟨r4, r5⟩ := Klb.out W (C4.out.on hW4)
    exact ⟨r1, r2, r3, Kk1.out.far (Below.block hW g1 Kk1.out.lt), Kk2.out.far (Below.block hW g2 Kk2.out.lt), r4, r5⟩⟩
  have Kst : Kept (DcL l0 l1 O A B X Y R [] 0 0 0 0 0) := ⟨.inl ⟨Nat.zero_le _, CtI.start KX.out KY.out, by rw [List.nil_append, Nat.zero_add, Nat.sub_zero, KR0.out]⟩⟩
  clear C6 C4 KRd Klb Kk1 Kk2 KR0
  go_upto_region 6 with fail
  go_loopw [15, 16, 17, 18, 19, 20] (fun ov cv iv jv kv nv wr => ∃ (x i j k c : Nat) (T : List Int), x ≤ O.length + 1 ∧ ov = .string (strOfNums T) ∧ cv = .int .i64 c ∧ iv = .int .i64 i ∧ jv = .int .i64 j ∧ kv = .int .i64 k ∧ nv = .int .i64 x ∧ AllB T ∧ T.length ≤ 5000000 * x ∧ c ≤ x ∧ DcL l0 l1 O A B X Y R T c x i j k ∧ CC w6 wr) (fun _ _ _ _ _ nv _ => O.length + 1 - (intOf nv).toNat)
  case atStart => exact ⟨0, 0, 0, 0, 0, [], Nat.zero_le _, rfl, rfl, rfl, rfl, rfl, rfl, AllIn.nil, Nat.zero_le _, Nat.le_refl _, Kst.out, CC.refl _⟩
  case round =>
    obtain ⟨x, i, j, k, c, T, hx, rfl, rfl, rfl, rfl, rfl, rfl, hTa, hTl, hcx, hdl, hcc⟩ := hrel
    have KC := Kept.mk hcc
    have KTa := Kept.mk hTa
    have KTl := Kept.mk hTl
    have KJl := Kept.mk hcx
    have hOl := KJ.out.2.2.2.1
    have hAl := KJ.out.2.2.2.2.1
    have hBl := KJ.out.2.2.2.2.2.1
    obtain ⟨rO, rA, rB, k1, k2, -, -⟩ := KF.out wr hcc
    have e1 : IntKind.i64.wrap ((x : Int) + 1) = (x : Int) + 1 := wr64 (by omega) (by omega)
    have n0 : (0 : Int) ≤ (x : Int) := by omega
    clear Kst hcc hTa
    rcases hdl with ⟨hxl, hct, hre⟩ | ⟨hxe, hre⟩
    · have KCt := Kept.mk hct
      have Kre := Kept.mk hre
      have hle : (x : Int) ≤ (O.length : Int) := by omega
      by_cases hlt : x < O.length
      · have hli : (x : Int) < (O.length : Int) := by omega
        obtain ⟨y, hy⟩ : ∃ y, X[x]? = some y := ⟨_, List.getElem?_eq_getElem (by rw [KXl.out]; exact hlt)⟩
        obtain ⟨z, hz⟩ : ∃ z, Y[x]? = some z := ⟨_, List.getElem?_eq_getElem (by rw [KYl.out]; exact hlt)⟩
        have d1 := bk_int k1 hy
        have d2 := bk_int k2 hz
        obtain ⟨f, hf⟩ : ∃ f, O.length - x = f + 1 := ⟨O.length - x - 1, by omega⟩
        have hf' : O.length - (x + 1) = f := by omega
        rw [hf] at Kre
        have Kf := Kept.mk hf'
        clear hf hf' hre hct k1 k2
        by_cases hp : y = -1 ∨ z = -1
        · have Kdl : Kept (DcL l0 l1 O A B X Y R T c (x + 1) i j k) := ⟨.inl ⟨hlt, KCt.out.pass, by rw [Kf.out, ← dcG_pass hy hz hp]; exact Kre.out⟩⟩
          have hyw : y ≠ -1 → ¬ y < 0 := fun h => by have := KX.out.within x y hy h; omega
          clear hy hz Kre
          by_cases hy1 : y = -1
          · subst hy1
            clear hp hyw
            go_wp2
            go_roundw
            case rel => exact ⟨x + 1, i, j, k, c, T, by omega, rfl, rfl, rfl, rfl, rfl, by go_num, KTa.out, by omega, by omega, Kdl.out, KC.out⟩
            case measure => simp [intOf]; omega
          · have hz1 : z = -1 := hp.resolve_left hy1
            subst hz1
            have hyn : ¬ y < 0 := hyw hy1
            clear hp hy1 hyw
            go_wp2
            go_roundw
            case rel => exact ⟨x + 1, i, j, k, c, T, by omega, rfl, rfl, rfl, rfl, rfl, by go_num, KTa.out, by omega, by omega, Kdl.out, KC.out⟩
            case measure => simp [intOf]; omega
        · have hy1 : y ≠ -1 := fun e => hp (.inl e)
          have hz1 : z ≠ -1 := fun e => hp (.inr e)
          have hyw := KX.out.within x y hy hy1
          have hzw := KY.out.within x z hz hz1
          simp only at hyw hzw
          have hjy := KCt.out.jx x y (Nat.le_refl _) hy hy1
          have hkz := KCt.out.kx x z (Nat.le_refl _) hz hz1
          have hix := KCt.out.ix
          obtain ⟨yn, rfl⟩ : ∃ n : Nat, y = n := ⟨y.toNat, by omega⟩
          obtain ⟨zn, rfl⟩ : ∃ n : Nat, z = n := ⟨z.toNat, by omega⟩
          have hyn : ¬ ((yn : Nat) : Int) < 0 := by omega
          have hzn : ¬ ((zn : Nat) : Int) < 0 := by omega
          have ey : IntKind.i64.wrap ((yn : Int) + 1) = (yn : Int) + 1 := wr64 (by omega) (by omega)
          have ez : IntKind.i64.wrap ((zn : Int) + 1) = (zn : Int) + 1 := wr64 (by omega) (by omega)
          obtain ⟨s, hs⟩ : ∃ s, O[x]? = some s := ⟨_, List.getElem?_eq_getElem hlt⟩
          have hsl : s.size ≤ 1048576 := by
            have h1 := mem_le_sum (List.mem_map_of_mem (f := ByteArray.size) (List.mem_of_getElem? hs))
            rw [← jnd_size] at h1
            have := KJ.out.1
            omega
          obtain ⟨bb, off, hpo, hcs⟩ : ∃ b off, po = some ⟨b, off, none⟩ ∧ ∀ W, CC w6 W → W.cell? ⟨b, off + x, none⟩ = some (.string s) := by
            obtain ⟨p', c', he, -, hr⟩ := rO
            have h0 : 0 < (O.map Value.string).length := by rw [List.length_map]; omega
            obtain ⟨b, off, hp', -, -⟩ := hr h0
            injection he with e1 e2 e3
            refine ⟨b, off, by rw [e1, hp'], fun W hW => ?_⟩
            obtain ⟨p2, c2, he2, -, hr2⟩ := (KF.out W hW).1
            obtain ⟨b2, off2, hp2, -, hrr⟩ := hr2 h0
            injection he2 with f1 f2 f3
            have := hrr x _ (by rw [List.getElem?_map, hs]; rfl)
            rw [← f1, e1, hp'] at hp2
            injection hp2 with hp2
            injection hp2 with q1 q2
            rw [q1, q2]
            exact this
          subst hpo
          obtain ⟨ho1, ho2, ho3⟩ := Kcc.out
          obtain ⟨a1, k1', r1, s1⟩ := sub_lh (pa := some ⟨bb, off, none⟩) (pc := co) (L := O) (lo := i) (hi := x) (by omega) (by omega) ho1
          obtain ⟨a2, k2', r2, s2⟩ := sub_lh (pa := pe) (pc := ce) (L := A) (lo := j) (hi := yn) (by omega) (by omega) ho2
          obtain ⟨a3, k3', r3, s3⟩ := sub_lh (pa := pf) (pc := cf) (L := B) (lo := k) (hi := zn) (by omega) (by omega) ho3
          have KR1 := Kept.mk r1
          have KR2 := Kept.mk r2
          have KR3 := Kept.mk r3
          have hpk := sg_ok O A B i x j yn k zn
          have hpl := pcR_len (l0 := l0) (l1 := l1) _ hpk KJ.out.2.2.2.2.2.2.1 KJ.out.2.2.2.2.2.2.2 KJ.out.1 KJ.out.2.1 KJ.out.2.2.1
          have KPa := Kept.mk (pcR_all l0 l1 (sg O i x, sg A j yn, sg B k zn))
          have KP : Kept (∀ W, CC w6 W → Calls Try.prog 37 #[.slice a1 (x - i) k1', .slice a2 (yn - j) k2', .slice a3 (zn - k) k3', .agg #[.string l0, .string l1]] W fun e w' => e = .returned (.tuple #[.string (strOfNums (pcR l0 l1 (sg O i x, sg A j yn, sg B k zn)).1), .int .i64 (pcR l0 l1 (sg O i x, sg A j yn, sg B k zn)).2]) ∧ CC w6 w') := ⟨fun W hW => by
            obtain ⟨q1, q2, q3, -⟩ := KF.out W hW
            obtain ⟨m1, m2, m3, m4, m5, m6⟩ := hpk
            have hJ := KJ.out
            exact (piece_any _ _ _ _ _ _ l0 l1 W (s1 W q1) (s2 W q2) (s3 W q3) (by simp only at m4; omega) (by simp only at m5; omega) (by simp only at m6; omega) (by omega) (by omega) (by simp only at m1; omega) (by simp only at m2; omega) (by simp only at m3; omega)).mono fun e w' hp => ⟨hp.1, hW.on hp.2⟩⟩
          obtain ⟨Pt, hPt⟩ : ∃ Pt, (pcR l0 l1 (sg O i x, sg A j yn, sg B k zn)).1 = Pt := ⟨_, rfl⟩
          obtain ⟨Pn, hPn⟩ : ∃ Pn, (pcR l0 l1 (sg O i x, sg A j yn, sg B k zn)).2 = Pn := ⟨_, rfl⟩
          have hpe : pcR l0 l1 (sg O i x, sg A j yn, sg B k zn) = (Pt, Pn) := by rw [← hPt, ← hPn]
          rw [hPt, hPn] at KP hpl
          rw [hPt] at KPa
          have ec : IntKind.i64.wrap ((c : Int) + (Pn : Int)) = (c : Int) + (Pn : Int) := wr64 (by omega) (by omega)
          have hTl' := KTl.out
          have ad1 := fun W => run_string_add_sum (P := Try.prog) W (strOfNums T) (strOfNums Pt) (by rw [sn_size, sn_size]; omega)
          have ad2 := fun W => run_string_add_sum (P := Try.prog) W (strOfNums T ++ strOfNums Pt) s (by rw [size_cat, sn_size, sn_size]; omega)
          have Kdl : Kept (DcL l0 l1 O A B X Y R (T ++ Pt ++ nms s) (c + Pn) (x + 1) (x + 1) (yn + 1) (zn + 1)) := ⟨.inl ⟨hlt, CtI.hit KX.out KY.out hy hz, by
            have h := Kre.out
            rw [dcG_hit hy hz, hpe, List.getD, hs] at h
            simp only [Option.getD_some] at h
            rw [Kf.out, ← h]
            simp only [List.append_assoc, Nat.add_assoc]⟩⟩
          have Kst : Kept (Value.string (strOfNums T ++ strOfNums Pt ++ s) = .string (strOfNums (T ++ Pt ++ nms s))) := ⟨by rw [← sn_append, ← sn_append, sn_nms]⟩
          have Kal : Kept (AllB (T ++ Pt ++ nms s)) := ⟨(KTa.out.append KPa.out).append (nms_all s)⟩
          have Kll : Kept ((T ++ Pt ++ nms s).length ≤ 5000000 * (x + 1) ∧ c + Pn ≤ x + 1) := ⟨by rw [List.length_append, List.length_append, nms_length]; omega⟩
          have Kcs := Kept.mk hcs
          generalize strOfNums T = ST at *
          generalize strOfNums Pt = SP at *
          generalize x - i = n1 at *
          generalize yn - j = n2 at *
          generalize zn - k = n3 at *
          clear r1 r2 r3 s1 s2 s3 hyw hzw hjy hkz hix ho1 ho2 ho3 hp hy1 hz1 hy hz hpk hpl hPt hPn hpe hTl' hTl hcx hs hsl hcs rO rA rB KPa
          go_upto_region 13 with fail
          refine wp_region_quietC (C := CC w6) (by kernel_rfl) (by kernel_rfl) (Below.drew KC.out) ?_
          go_big_quiet_step (fail)
          go_big_quiet_step (fail)
          go_big_quiet_step (fail)
          refine wpQuiet_slice _ _ _ _ _ rfl rfl (by exact KR1.out) ?_
          simp only [Act.put, List.setIfInBounds_toArray, List.set_cons_zero, List.set_cons_succ]
          go_big_quiet_step (fail)
          go_big_quiet_step (fail)
          go_big_quiet_step (fail)
          refine wpQuiet_slice _ _ _ _ _ rfl rfl (by exact KR2.out) ?_
          simp only [Act.put, List.setIfInBounds_toArray, List.set_cons_zero, List.set_cons_succ]
          go_big_quiet_step (fail)
          go_big_quiet_step (fail)
          go_big_quiet_step (fail)
          refine wpQuiet_slice _ _ _ _ _ rfl rfl (by exact KR3.out) ?_
          simp only [Act.put, List.setIfInBounds_toArray, List.set_cons_zero, List.set_cons_succ]
          refine BigFrame.wpQuiet_want rfl (fun K hK => quiet_load_mid 23 _ rfl w.heap.size 0 rfl [.string l0, .string l1] _ (fun W hW => (KF.out W hW).2.2.2.2.2.1) Try.underlying23 rfl info_lb2 (hK _ ?_))
          clear hK K
          simp only [Act.put, List.setIfInBounds_toArray, List.set_cons_zero, List.set_cons_succ]
          go_big_quiet_step ((intro hCw; exact KP.out _ hCw))
          go_big_quiet_step (fail)
          go_big_quiet_step ((intro _; rfl))
          go_big_quiet_step ((intro _; rfl))
          go_big_quiet_step (fail)
          go_big_quiet_step (fail)
          refine wpQuiet_nil ?_
          intro wx hcx
          have KCx := Kept.mk hcx
          have hcel := Kcs.out wx hcx
          clear hcx d1 d2 Kcs
          go_wp2
          go_roundw
          case rel => exact ⟨x + 1, x + 1, yn + 1, zn + 1, c + Pn, _, by omega, Kst.out, by go_num, by go_num, by go_num, by go_num, by go_num, Kal.out, Kll.out.1, Kll.out.2, Kdl.out, KCx.out⟩
          case measure => simp [intOf]; omega
      · have hxe : x = O.length := by omega
        subst hxe
        have hli : ¬ (O.length : Int) < (O.length : Int) := by omega
        have hix := KCt.out.ix
        have hjl := KCt.out.jl
        have hkl := KCt.out.kl
        clear hre hct k1 k2
        obtain ⟨ho1, ho2, ho3⟩ := Kcc.out
        obtain ⟨a1, k1', r1, s1⟩ := sub_lh (pa := po) (pc := co) (L := O) (lo := i) (hi := O.length) (by omega) (by omega) ho1
        obtain ⟨a2, k2', r2, s2⟩ := sub_lh (pa := pe) (pc := ce) (L := A) (lo := j) (hi := A.length) (by omega) (by omega) ho2
        obtain ⟨a3, k3', r3, s3⟩ := sub_lh (pa := pf) (pc := cf) (L := B) (lo := k) (hi := B.length) (by omega) (by omega) ho3
        have KR1 := Kept.mk r1
        have KR2 := Kept.mk r2
        have KR3 := Kept.mk r3
        have hpk := sg_ok O A B i O.length j A.length k B.length
        have hpl := pcR_len (l0 := l0) (l1 := l1) _ hpk KJ.out.2.2.2.2.2.2.1 KJ.out.2.2.2.2.2.2.2 KJ.out.1 KJ.out.2.1 KJ.out.2.2.1
        have KPa := Kept.mk (pcR_all l0 l1 (sg O i O.length, sg A j A.length, sg B k B.length))
        have KP : Kept (∀ W, CC w6 W → Calls Try.prog 37 #[.slice a1 (O.length - i) k1', .slice a2 (A.length - j) k2', .slice a3 (B.length - k) k3', .agg #[.string l0, .string l1]] W fun e w' => e = .returned (.tuple #[.string (strOfNums (pcR l0 l1 (sg O i O.length, sg A j A.length, sg B k B.length)).1), .int .i64 (pcR l0 l1 (sg O i O.length, sg A j A.length, sg B k B.length)).2]) ∧ CC w6 w') := ⟨fun W hW => by
          obtain ⟨q1, q2, q3, -⟩ := KF.out W hW
          obtain ⟨m1, m2, m3, m4, m5, m6⟩ := hpk
          have hJ := KJ.out
          exact (piece_any _ _ _ _ _ _ l0 l1 W (s1 W q1) (s2 W q2) (s3 W q3) (by simp only at m4; omega) (by simp only at m5; omega) (by simp only at m6; omega) (by omega) (by omega) (by simp only at m1; omega) (by simp only at m2; omega) (by simp only at m3; omega)).mono fun e w' hp => ⟨hp.1, hW.on hp.2⟩⟩
        obtain ⟨Pt, hPt⟩ : ∃ Pt, (pcR l0 l1 (sg O i O.length, sg A j A.length, sg B k B.length)).1 = Pt := ⟨_, rfl⟩
        obtain ⟨Pn, hPn⟩ : ∃ Pn, (pcR l0 l1 (sg O i O.length, sg A j A.length, sg B k B.length)).2 = Pn := ⟨_, rfl⟩
        have hpe : pcR l0 l1 (sg O i O.length, sg A j A.length, sg B k B.length) = (Pt, Pn) := by rw [← hPt, ← hPn]
        rw [hPt, hPn] at KP hpl
        rw [hPt] at KPa
        have ec : IntKind.i64.wrap ((c : Int) + (Pn : Int)) = (c : Int) + (Pn : Int) := wr64 (by omega) (by omega)
        have hTl' := KTl.out
        have ad1 := fun W => run_string_add_sum (P := Try.prog) W (strOfNums T) (strOfNums Pt) (by rw [sn_size, sn_size]; omega)
        have Kdl : Kept (DcL l0 l1 O A B X Y R (T ++ Pt) (c + Pn) (O.length + 1) i j k) := ⟨.inr ⟨rfl, by
          have h := Kre.out
          rw [Nat.sub_self] at h
          have e : dcG l0 l1 O A B X Y 0 O.length i j k = (Pt, Pn) := by
            rw [← hpe, sg_all, sg_all, sg_all]
            rfl
          rw [e] at h
          exact h⟩⟩
        have Kst : Kept (Value.string (strOfNums T ++ strOfNums Pt) = .string (strOfNums (T ++ Pt))) := ⟨by rw [← sn_append]⟩
        have Kal : Kept (AllB (T ++ Pt)) := ⟨KTa.out.append KPa.out⟩
        have Kll : Kept ((T ++ Pt).length ≤ 5000000 * (O.length + 1) ∧ c + Pn ≤ O.length + 1) := ⟨by rw [List.length_append]; omega⟩
        generalize strOfNums T = ST at *
        generalize strOfNums Pt = SP at *
        generalize O.length - i = n1 at *
        generalize A.length - j = n2 at *
        generalize B.length - k = n3 at *
        clear r1 r2 r3 s1 s2 s3 hix hjl hkl ho1 ho2 ho3 hpk hpl hPt hPn hpe hTl' hTl hcx rO rA rB KPa
        go_upto_region 13 with fail
        refine wp_region_quietC (C := CC w6) (by kernel_rfl) (by kernel_rfl) (Below.drew KC.out) ?_
        go_big_quiet_step (fail)
        go_big_quiet_step (fail)
        go_big_quiet_step (fail)
        refine wpQuiet_slice _ _ _ _ _ rfl rfl (by exact KR1.out) ?_
        simp only [Act.put, List.setIfInBounds_toArray, List.set_cons_zero, List.set_cons_succ]
        go_big_quiet_step (fail)
        go_big_quiet_step (fail)
        go_big_quiet_step (fail)
        refine wpQuiet_slice _ _ _ _ _ rfl rfl (by exact KR2.out) ?_
        simp only [Act.put, List.setIfInBounds_toArray, List.set_cons_zero, List.set_cons_succ]
        go_big_quiet_step (fail)
        go_big_quiet_step (fail)
        go_big_quiet_step (fail)
        refine wpQuiet_slice _ _ _ _ _ rfl rfl (by exact KR3.out) ?_
        simp only [Act.put, List.setIfInBounds_toArray, List.set_cons_zero, List.set_cons_succ]
        refine BigFrame.wpQuiet_want rfl (fun K hK => quiet_load_mid 23 _ rfl w.heap.size 0 rfl [.string l0, .string l1] _ (fun W hW => (KF.out W hW).2.2.2.2.2.1) Try.underlying23 rfl info_lb2 (hK _ ?_))
        clear hK K
        simp only [Act.put, List.setIfInBounds_toArray, List.set_cons_zero, List.set_cons_succ]
        go_big_quiet_step ((intro hCw; exact KP.out _ hCw))
        go_big_quiet_step (fail)
        go_big_quiet_step ((intro _; rfl))
        go_big_quiet_step ((intro _; rfl))
        go_big_quiet_step (fail)
        go_big_quiet_step (fail)
        refine wpQuiet_nil ?_
        intro wx hcx
        have KCx := Kept.mk hcx
        clear hcx
        go_wp2
        go_roundw
        case rel => exact ⟨O.length + 1, i, j, k, c + Pn, _, by omega, Kst.out, by go_num, rfl, rfl, rfl, by go_num, Kal.out, Kll.out.1, Kll.out.2, Kdl.out, KCx.out⟩
        case measure => simp [intOf]
    · subst hxe
      have hle : ¬ ((O.length + 1 : Nat) : Int) ≤ (O.length : Int) := by omega
      obtain ⟨W, v, hcv, hrd, hbw⟩ := bytes_sn wr T KTa.out (by omega)
      have hRe : R = (T, c) := hre.symm
      have Kend : Kept (DtE w R (.returned (.tuple #[v, .int .i64 c])) W) := ⟨⟨v, by rw [hRe], by rw [hRe]; exact hrd, by rw [hRe]; exact KTa.out, by rw [hRe]; show T.length ≤ 8000000000; omega, (KF.out wr KC.out).2.2.2.2.2.2.trans (hbw.mono (KF.out wr KC.out).2.2.2.2.2.2.size)⟩⟩
      clear hre hRe hrd hbw k1 k2 rO rA rB hTl hcx KTa KTl
      generalize strOfNums T = ST at *
      go_wp2_with (rw [hcv])
      go_ret2
      rw [KeO.out, KeA.out, KeB.out, KR.out]
      exact Kend.out
end Go.Proofs.Ytidpdhnbnecddaa
