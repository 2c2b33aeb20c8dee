/-
  Plain mathematics: what is built is parsed.
-/
import Derived.Test.YtgoegmaepafopaaDoorP18
import Derived.Great.BuildSlice
namespace Go.Proofs.YtgoegmaepafopaaDoor
open Go.RowKit

theorem accL_split (f : Nat → List Int) : ∀ {n i : Nat}, i < n → ∃ R, accL f n = accL f i ++ f i ++ R
  | n + 1, i, h => by
    rcases Nat.lt_or_ge i n with h' | h'
    · obtain ⟨R, hR⟩ := accL_split f h'
      exact ⟨R ++ f n, by rw [accL_succ, hR]; simp only [List.append_assoc]⟩
    · obtain rfl : i = n := by omega
      exact ⟨[], by rw [accL_succ, List.append_nil]⟩
theorem seg_acc {A C p : List Int} {f : Nat → List Int} {n i t m : Nat} (hp : p = A ++ accL f n ++ C) (hi : i < n) (ht : A.length + (accL f i).length = t) (hm : (f i).length = m) : seg p t m = f i := by
  obtain ⟨R, hR⟩ := accL_split f hi
  rw [hp, hR]
  have : A ++ (accL f i ++ f i ++ R) ++ C = (A ++ accL f i) ++ f i ++ (R ++ C) := by simp only [List.append_assoc]
  rw [this]
  exact seg_at _ _ _ _ _ (by rw [List.length_append]; exact ht) hm
theorem bigT_of_seg {p : List Int} {t n : Nat} {x : Int} (h : seg p t n = Nu.bigF n x) (h0 : 0 ≤ x) (h1 : x < 256 ^ n) : Nu.bigT p t n = x := by
  unfold Nu.bigT
  show Nu.bigV 0 (seg p t n) = x
  rw [h, bigV_bigF n x 0 h0 h1]
  omega

theorem parse_build {rs : List RowC} {bs : List Bool} {pk : List Int} (hok : ∀ r ∈ rs, r.ok) (hpk : pk.length = 32) (hr : Rise rs) (hn : rs.length ≤ 4096) (hb : bs.length = rs.length)
    (hbs : ∀ i, i < rs.length → lng bs i = false → (rowI rs i).pl < 2147483648) : prsE (buildL rs bs pk) = 0 ∧ prsL (buildL rs bs pk) = rs ∧ prsP (buildL rs bs pk) = pk := by
  obtain ⟨n, hnl⟩ : ∃ n, rs.length = n := ⟨_, rfl⟩
  obtain ⟨p, hp⟩ : ∃ p, buildL rs bs pk = p := ⟨_, rfl⟩
  have hbl := bodyL_len hok bs pk
  rw [hnl, hpk] at hbl
  have hsl := sumB_length (bodyL rs bs pk)
  have hpl : p.length = 1096 + n * 40 + nl bs n * 8 := by rw [← hp]; unfold buildL; rw [List.length_append, hbl, hsl]; omega
  have hids := idsB_len hok (Nat.le_refl rs.length)
  have hcrc := crcB_len rs rs.length
  have hshl := shorts_len rs bs rs.length
  have hlol := longs_len rs bs rs.length
  have hfal := fanB_len rs 256
  rw [hnl] at hids hcrc hshl hlol
  have hbody : bodyL rs bs pk = headB ++ fanB rs 256 ++ idsB rs n ++ crcB rs n ++ accL (shortI rs bs) n ++ accL (longI rs bs) n ++ pk := by unfold bodyL; rw [hnl]
  have hpp : p = headB ++ fanB rs 256 ++ idsB rs n ++ crcB rs n ++ accL (shortI rs bs) n ++ accL (longI rs bs) n ++ pk ++ sumB (bodyL rs bs pk) := by rw [← hp]; unfold buildL; rw [← hbody]
  have h8 : headB.length = 8 := rfl
  have hcle : ∀ b, cntL rs b ≤ n := fun b => by have := cntL_le rs b; omega
  -- the pieces
  have hfan : ∀ b, b < 256 → fanR p b = (cntL rs b : Int) := fun b hb => by
    have hc := hcle b
    refine bigT_of_seg ?_ (by omega) (by omega)
    refine seg_acc (A := headB) (C := idsB rs n ++ crcB rs n ++ accL (shortI rs bs) n ++ accL (longI rs bs) n ++ pk ++ sumB (bodyL rs bs pk)) (f := fun b => Nu.bigF 4 (cntL rs b : Int)) (n := 256) (i := b) ?_ hb ?_ (Nu.bigF_length _ _)
    · rw [hpp]; unfold fanB; simp only [List.append_assoc]
    · rw [accL_len _ 4 b (fun _ _ => Nu.bigF_length _ _)]; omega
  have hidp : ∀ i, i < n → seg p (1032 + i * 32) 32 = (rowI rs i).ids := fun i hi => by
    refine seg_acc (A := headB ++ fanB rs 256) (C := crcB rs n ++ accL (shortI rs bs) n ++ accL (longI rs bs) n ++ pk ++ sumB (bodyL rs bs pk)) (f := fun i => (rowI rs i).ids) (n := n) (i := i) ?_ hi ?_ (rowI_ok hok (by omega)).1
    · rw [hpp]; unfold idsB; simp only [List.append_assoc]
    · rw [accL_len _ 32 i (fun j hj => (rowI_ok hok (by omega)).1), List.length_append, hfal]; omega
  have hcrp : ∀ i, i < n → Nu.bigT p (1032 + n * 32 + i * 4) 4 = (rowI rs i).crc := fun i hi => by
    have ho := (rowI_ok hok (show i < rs.length by omega)).2.2
    refine bigT_of_seg ?_ ho.1 (by omega)
    refine seg_acc (A := headB ++ fanB rs 256 ++ idsB rs n) (C := accL (shortI rs bs) n ++ accL (longI rs bs) n ++ pk ++ sumB (bodyL rs bs pk)) (f := fun i => Nu.bigF 4 (rowI rs i).crc) (n := n) (i := i) ?_ hi ?_ (Nu.bigF_length _ _)
    · rw [hpp]; unfold crcB; simp only [List.append_assoc]
    · rw [accL_len _ 4 i (fun _ _ => Nu.bigF_length _ _), List.length_append, List.length_append, hfal, hids]; omega
  have hshp : ∀ i, i < n → shortR p n i = if lng bs i = true then 2147483648 + (nl bs i : Int) else (rowI rs i).pl := fun i hi => by
    have ho := (rowI_ok hok (show i < rs.length by omega)).2.2.2.2
    have hq := nl_le bs i
    have hrange : 0 ≤ (if lng bs i = true then 2147483648 + (nl bs i : Int) else (rowI rs i).pl) ∧ (if lng bs i = true then 2147483648 + (nl bs i : Int) else (rowI rs i).pl) < 256 ^ 4 := by
      split
      · omega
      · rename_i hl
        have := hbs i (by omega) (by simpa using hl)
        omega
    refine bigT_of_seg ?_ hrange.1 hrange.2
    refine seg_acc (A := headB ++ fanB rs 256 ++ idsB rs n ++ crcB rs n) (C := accL (longI rs bs) n ++ pk ++ sumB (bodyL rs bs pk)) (f := shortI rs bs) (n := n) (i := i) ?_ hi ?_ (Nu.bigF_length _ _)
    · rw [hpp]; simp only [List.append_assoc]
    · rw [shorts_len, List.length_append, List.length_append, List.length_append, hfal, hids, hcrc]; omega
  have hlo : ∀ i, i < n → lng bs i = true → Nu.bigT p (1032 + n * 40 + nl bs i * 8) 8 = (rowI rs i).pl := fun i hi hl => by
    have ho := (rowI_ok hok (show i < rs.length by omega)).2.2.2.2
    refine bigT_of_seg ?_ ho.1 (by omega)
    have he : longI rs bs i = Nu.bigF 8 (rowI rs i).pl := by unfold longI; rw [if_pos hl]
    rw [← he]
    refine seg_acc (A := headB ++ fanB rs 256 ++ idsB rs n ++ crcB rs n ++ accL (shortI rs bs) n) (C := pk ++ sumB (bodyL rs bs pk)) (f := longI rs bs) (n := n) (i := i) ?_ hi ?_ (by rw [he, Nu.bigF_length])
    · rw [hpp]; simp only [List.append_assoc]
    · rw [longs_len, List.length_append, List.length_append, List.length_append, List.length_append, hfal, hids, hcrc, hshl]; omega
  have hlg : longR p n = bs := by
    apply List.ext_getElem
    · rw [longR_length, hb, hnl]
    · intro i h1 h2
      have hi : i < n := by rw [longR_length] at h1; exact h1
      rw [← lng_get h1, ← lng_get h2, lng_longR p n i hi, hshp i hi]
      cases hl : lng bs i with
      | true =>
        rw [if_pos rfl]
        exact decide_eq_true (by omega)
      | false =>
        have := hbs i (by omega) hl
        exact decide_eq_false (by rw [if_neg (by decide)]; omega)
  have hfit : Fit p n := by unfold Fit; rw [hlg]; exact hpl
  have hrow : rowsR p n = rs := by
    apply List.ext_getElem
    · rw [rowsR_length, hnl]
    · intro i h1 h2
      have hi : i < n := by omega
      rw [← rowI_get h1, ← rowI_get h2, rowsR_get p n i hi]
      unfold rowR
      rw [hidp i hi, hcrp i hi, hlg]
      cases hl : lng bs i with
      | true => rw [if_pos rfl, hlo i hi hl]
      | false => rw [if_neg (by decide), hshp i hi, hl, if_neg (by decide)]
  have hfr : fanRL p = fanV rs := List.map_congr_left fun b hb => hfan b (by simpa using hb)
  have hup : upB (fanRL p) = true := by
    rw [upB_iff, hfr]
    intro i hi
    have hfl : (fanV rs).length = 256 := map256_length _
    rw [fanV_get rs (by omega), fanV_get rs (by omega)]
    have := cntL_mono rs (show i ≤ i + 1 by omega)
    omega
  have hhd : p.take 8 = headB := by
    rw [hpp]
    simp only [List.append_assoc]
    exact List.take_left' h8
  have h255 : fanR p 255 = (n : Int) := by rw [hfan 255 (by omega), cntL_all hok, hnl]
  have hcnt : cntS p = ((n : Int), 0) := by
    unfold cntS
    rw [if_neg (by omega), if_neg (by simpa using hhd), if_neg (by rw [hup]; decide), if_neg (by rw [h255]; omega), h255]
  have hsz : sizeE p n = 0 := by
    unfold sizeE
    unfold Fit at hfit
    rw [if_neg (by omega), if_neg (by omega), if_neg (by omega)]
  have htk : p.take (p.length - 32) = bodyL rs bs pk := by
    rw [← hp]
    unfold buildL
    exact List.take_left' (by rw [List.length_append, hsl]; omega)
  have hsum : seg p (p.length - 32) 32 = sumB (p.take (p.length - 32)) := by
    rw [htk]
    have : p = bodyL rs bs pk ++ sumB (bodyL rs bs pk) := by rw [← hp]; rfl
    have h2 := seg_append (bodyL rs bs pk) (sumB (bodyL rs bs pk)) 32 hsl
    rw [← this] at h2
    rw [show p.length - 32 = (bodyL rs bs pk).length by rw [hbl]; omega]
    exact h2
  have hnm : namedB p n = true := by
    rw [namedB_iff]
    intro i hi h31
    rw [hlg, hshp i hi]
    rw [hshp i hi] at h31
    cases hl : lng bs i with
    | true => rw [if_pos rfl]
    | false =>
      rw [hl, if_neg (by decide)] at h31
      have := hbs i (by omega) hl
      omega
  have hE : prsE p = 0 := by
    unfold prsE
    rw [hcnt]
    simp only [Int.toNat_natCast]
    rw [if_neg (by decide), if_neg (by rw [hsz]; decide), if_neg (by simpa using hsum), if_pos ⟨hnm, by rw [hrow]; exact (riseB_iff rs).2 hr, by rw [hrow, hfr]⟩]
  rw [hp]
  refine ⟨hE, ?_, ?_⟩
  · unfold prsL
    rw [if_pos hE, hcnt]
    simp only [Int.toNat_natCast]
    exact hrow
  · unfold prsP
    rw [if_pos hE]
    rw [hpp]
    refine seg_at _ _ _ _ _ ?_ hpk
    rw [← hpp, hpl]
    simp only [List.length_append, hfal, hids, hcrc, hshl, hlol, h8]
    omega

open Go.RowKit Go.Sort

def idN (k : Int) : List Int := k :: List.replicate 31 0
theorem idN_len (k : Int) : (idN k).length = 32 := by simp [idN]
theorem idN_allB {k : Int} (h : 0 ≤ k ∧ k < 256) : AllB (idN k) := by
  intro x hx
  rcases List.mem_cons.1 hx with rfl | hx
  · exact h
  · rw [List.eq_of_mem_replicate hx]; omega
def rA : RowC := ⟨idN 2, 0, 7⟩
def rB : RowC := ⟨idN 1, 9, 2147483648⟩
theorem rA_ok : rA.ok := ⟨idN_len 2, idN_allB (by omega), by decide, by decide, by decide, by decide⟩
theorem rB_ok : rB.ok := ⟨idN_len 1, idN_allB (by omega), by decide, by decide, by decide, by decide⟩
theorem sortAB : sortF [rA, rB] = [rB, rA] := by kernel_rfl
theorem riseBA : riseB [rB, rA] = true := by decide +kernel
theorem own_made (w : World) {rs : List RowC} (hok : ∀ r ∈ rs, r.ok) (e : TypeId) (hn : rs.length ≤ 1000000) : OwnR e (w.alloc (.cells (rs.flatMap RowC.l).toArray e)) w.heap.size (.slice (some ⟨w.heap.size, 0, none⟩) rs.length rs.length) rs :=
  ⟨⟨flat_len hok, .inr ⟨w.heap.size, rs.length, (rs.flatMap RowC.l).toArray, rfl, Nat.le_refl _, heap_alloc_new w _, Nat.le_refl _, by unfold maxLen; omega, by rw [List.size_toArray, flat_len hok], List.take_of_length_le (by rw [flat_len hok]; omega)⟩⟩, hok⟩
theorem ok_two {a b : RowC} (ha : a.ok) (hb : b.ok) : ∀ r ∈ [a, b], r.ok := by
  intro r hr
  simp at hr
  rcases hr with rfl | rfl
  · exact ha
  · exact hb
theorem bldE_ab : bldE [rA, rB] = 0 := by
  unfold bldE
  rw [sortAB, riseBA, if_neg (by decide), if_pos rfl]
theorem parseBA {rs : List RowC} (hok : ∀ r ∈ rs, r.ok) {pk : List Int} (hp : pk.length = 32) (h : bldE rs = 0) : prsE (bldL rs pk) = 0 ∧ prsL (bldL rs pk) = sortF rs ∧ prsP (bldL rs pk) = pk := by
  have hoks : ∀ r ∈ sortF rs, r.ok := fun r hr => hok r ((sortF_perm rs).mem_iff.1 hr)
  unfold bldL
  rw [if_pos h]
  unfold bldE at h
  by_cases h1 : 4096 < rs.length
  · rw [if_pos h1] at h; omega
  · rw [if_neg h1] at h
    by_cases h2 : riseB (sortF rs) = true
    · refine parse_build hoks hp ((riseB_iff _).1 h2) (by rw [(sortF_perm rs).length_eq]; omega) (by simp [lngs]) (fun i hi hl => ?_)
      rw [lngs_get hi] at hl
      have := of_decide_eq_false hl
      omega
    · rw [if_neg h2] at h; omega
theorem buildL_allB {rs : List RowC} (h : ∀ r ∈ rs, r.ok) (bs : List Bool) {pk : List Int} (hp : AllB pk) : AllB (buildL rs bs pk) := (bodyL_allB h bs hp).append (sumB_allB _)
theorem buildL_len {rs : List RowC} (h : ∀ r ∈ rs, r.ok) (bs : List Bool) {pk : List Int} (hp : pk.length = 32) : (buildL rs bs pk).length = 1096 + 40 * rs.length + 8 * nl bs rs.length := by
  unfold buildL
  rw [List.length_append, bodyL_len h, sumB_length, hp]
  omega
theorem bldL_allB {rs : List RowC} (h : ∀ r ∈ rs, r.ok) {pk : List Int} (hp : AllB pk) : AllB (bldL rs pk) := by
  unfold bldL
  split
  · exact buildL_allB (fun r hr => h r ((sortF_perm rs).mem_iff.1 hr)) _ hp
  · exact AllIn.nil
theorem bldL_len {rs : List RowC} (h : ∀ r ∈ rs, r.ok) {pk : List Int} (hp : pk.length = 32) : (bldL rs pk).length ≤ 1000000 := by
  unfold bldL
  split
  · rename_i hE
    have hn : rs.length ≤ 4096 := by
      unfold bldE at hE
      by_cases h1 : 4096 < rs.length
      · rw [if_pos h1] at hE; omega
      · omega
    have hl := (sortF_perm rs).length_eq
    rw [buildL_len (fun r hr => h r ((sortF_perm rs).mem_iff.1 hr)) _ hp]
    have := nl_le (lngs (sortF rs)) (sortF rs).length
    omega
  · simp

set_option maxHeartbeats 4000000 in
set_option maxRecDepth 100000 in
theorem awake_any (w : World) (hT : Sh.Tab w Sh.ksK) : Calls Tryd.prog 5 #[] w fun e w' => e = .returned (.bool true) ∧ Below w.heap.size w w' := by
  obtain ⟨w1, hw1⟩ : ∃ w1, w.alloc (.cells ([rA, rB].flatMap RowC.l).toArray 39) = w1 := ⟨_, rfl⟩
  have hO1 : OwnR 39 w1 w.heap.size (.slice (some ⟨w.heap.size, 0, none⟩) 2 2) [rA, rB] := by rw [← hw1]; exact own_made w (ok_two rA_ok rB_ok) _ (by decide)
  have hB1 : Below w.heap.size w w1 := by rw [← hw1]; exact (Below.refl _ _).alloc (Nat.le_refl _) _
  have KC := Kept.mk (build_any _ [rA, rB] (idN 5) w1 (Tab.later hT hB1 (Nat.le_refl _)) hO1.rdR (idN_len 5) (idN_allB (by omega)))
  obtain ⟨q1, q2, q3⟩ := parseBA (ok_two rA_ok rB_ok) (idN_len 5) bldE_ab
  rw [sortAB] at q2
  have hpA := bldL_allB (ok_two rA_ok rB_ok) (idN_allB (k := 5) (by omega))
  have hpl : (bldL [rA, rB] (idN 5)).length = 1184 := by
    unfold bldL
    rw [if_pos bldE_ab, sortAB, buildL_len (ok_two rB_ok rA_ok) _ (idN_len 5)]
    have : nl (lngs [rB, rA]) [rB, rA].length = 1 := by decide +kernel
    rw [this]
    rfl
  rw [bldE_ab] at KC
  have KB1 := Kept.mk hB1
  have KT := Kept.mk hT
  have KPA := Kept.mk hpA
  have KPL := Kept.mk hpl
  have Kq := Kept.mk (And.intro q1 (And.intro q2 q3))
  have Kw1 := Kept.mk hw1
  clear hO1 hB1 q1 q2 q3 hpA hpl hT hw1
  generalize bldL [rA, rB] (idN 5) = PB at *
  go_enter Tryd.func5, Tryd.ntmps5
  go_wp2_with fail
  generalize hO : Obj.cells (_ : Array Value) 39 = O
  have hO2 : O = Obj.cells ([rA, rB].flatMap RowC.l).toArray 39 := by subst hO; rfl
  subst hO2
  clear hO
  rw [Kw1.out]
  refine Calls.mono KC.out (fun e w2 hp => ?_)
  obtain ⟨v2, rfl, hO2, hb2⟩ := hp
  obtain ⟨a2, c2, rfl, -, -, -⟩ := hO2.rd.form
  have hB2 := KB1.out.trans (hb2.mono KB1.out.size)
  have hlp := KPL.out
  have KF := Kept.mk (find_any _ PB (idN 1) w2 (Tab.later KT.out hB2 (Nat.le_refl _)) hO2.rd KPA.out (by omega) (idN_len 1) (idN_allB (by omega)))
  have KB2 := Kept.mk hB2
  have KO2 := Kept.mk hO2
  have hEq : fndE PB (idN 1) = 0 := by
    unfold fndE
    rw [Kq.out.1, Kq.out.2.1, if_neg (by decide), if_pos (by decide +kernel)]
  have KEq := Kept.mk hEq
  clear hO2 hb2 hB2 KC hEq hlp Kw1
  go_wp2_with fail
  refine Calls.mono KF.out (fun e w3 hp => ?_)
  obtain ⟨r, rfl, hrok, hr0, -, hb3⟩ := hp
  rw [KEq.out]
  obtain ⟨hrm, hri⟩ := hr0 KEq.out
  rw [Kq.out.2.1] at hrm
  have hrB : r = rB := by
    simp at hrm
    rcases hrm with rfl | rfl
    · rfl
    · exfalso
      have := congrArg (fun l => List.getD l 0 0) hri
      revert this
      decide +kernel
  subst hrB
  obtain ⟨w4, hw4, hb4, hlt4, hh4, -, hcC, hcP, -⟩ := box_row w3 39 rB_ok
  have hB4 := (KB2.out.trans (hb3.mono KB2.out.size)).trans (hb4.mono (Nat.le_trans KB2.out.size hb3.size))
  have KB4 := Kept.mk hB4
  have hO4 := (KO2.out.later hb3 (Nat.le_refl _)).later hb4 (Nat.le_refl _)
  have KPr := Kept.mk (parse_any _ PB w4 (Tab.later KT.out hB4 (Nat.le_refl _)) hO4.rd KPA.out (by rw [KPL.out]; omega))
  rw [Kq.out.1, Kq.out.2.2] at KPr
  have KI2 := Kept.mk (row_info1 rB_ok)
  have KS := Kept.mk (row_size rB_ok)
  have KOn := Kept.mk (all_oneCell_toArray (RowC.ones rB))
  have hcC' : w4.cell? ⟨w3.heap.size, 32, none⟩ = some (.int .u32 9) := hcC
  have hcP' : w4.cell? ⟨w3.heap.size, 33, none⟩ = some (.int .u64 2147483648) := hcP
  have KcC := Kept.mk hcC'
  have KcP := Kept.mk hcP'
  clear hcC hcP hcC' hcP' hB4 hO4 hb3 hb4 hh4 KF hrok hr0 hrm hri
  generalize hCB : rB.l.toArray = CB at *
  clear hCB
  go_wp2_with (refine BigFrame.wpList_want rfl (fun K hK => wp_store_row 39 _ _ rfl w3.heap.size CB rfl rfl 39 _ (heap_alloc_new w3 _) KI2.out (by rw [KS.out]; rfl) KOn.out (hK _ _ ?_)); rw [World.setRow_alloc_new])
  refine Calls.mono KPr.out (fun e w5 hp => ?_)
  obtain ⟨v5, rfl, hO5, hb5⟩ := hp
  rw [Kq.out.2.1] at hO5
  obtain ⟨w6, hw6, hb6, hs6, hbk6⟩ := box_id w5 (idN 5)
  have hO6 := hO5.later hb6 (Nat.le_refl _)
  obtain ⟨b, off, c6, hv5, hrg⟩ : ∃ b off c6, v5 = .slice (some ⟨b, off, none⟩) 2 c6 ∧ w6.rangeAt b (off + 0 * 34) (rowI [rB, rA] 0).l := by
    obtain ⟨a', c', hv', -, -, -, -, h5⟩ := hO6.rdR
    obtain ⟨b, off, rfl, -, h6⟩ := h5 (by decide)
    exact ⟨b, off, c', hv', h6 0 (by decide)⟩
  subst hv5
  have hr32 : w6.rangeAt b off (cellsK .u8 (idN 1)) := by
    have := row_range32 (r := rB) hrg
    rwa [Nat.zero_mul, Nat.add_zero] at this
  have KR6 := Kept.mk hr32
  have hb46 := hb5.trans (hb6.mono hb5.size)
  have KB6 := Kept.mk (KB4.out.trans (hb46.mono KB4.out.size))
  have hcC6 := (hb46.cell (p := ⟨w3.heap.size, 32, none⟩) hlt4).trans KcC.out
  have hcP6 := (hb46.cell (p := ⟨w3.heap.size, 33, none⟩) hlt4).trans KcP.out
  have KPk := Kept.mk hbk6.range
  have KE1 : Kept (∀ W, (Op.equalIn 10000 24 (.agg (cellsK .u8 (idN 1)).toArray) (.agg (cellsK .u8 (idN 1)).toArray)).run Tryd.prog W = .ok true W) := ⟨fun W => by rw [eq_id W 9998 (idN_len 1) (idN_len 1), decide_eq_true rfl]⟩
  have KE5 : Kept (∀ W, (Op.equalIn 10000 24 (.agg (cellsK .u8 (idN 5)).toArray) (.agg (cellsK .u8 (idN 5)).toArray)).run Tryd.prog W = .ok true W) := ⟨fun W => by rw [eq_id W 9998 (idN_len 5) (idN_len 5), decide_eq_true rfl]⟩
  have hE1 : ∀ W, (Op.equalIn 10000 24 (.agg (cellsK .u8 (idN 1)).toArray) (.agg #[.int .u8 1, .int .u8 0, .int .u8 0, .int .u8 0, .int .u8 0, .int .u8 0, .int .u8 0, .int .u8 0, .int .u8 0, .int .u8 0, .int .u8 0, .int .u8 0, .int .u8 0, .int .u8 0, .int .u8 0, .int .u8 0, .int .u8 0, .int .u8 0, .int .u8 0, .int .u8 0, .int .u8 0, .int .u8 0, .int .u8 0, .int .u8 0, .int .u8 0, .int .u8 0, .int .u8 0, .int .u8 0, .int .u8 0, .int .u8 0, .int .u8 0, .int .u8 0])).run Tryd.prog W = .ok true W := KE1.out
  have hE5 : ∀ W, (Op.equalIn 10000 24 (.agg (cellsK .u8 (idN 5)).toArray) (.agg #[.int .u8 5, .int .u8 0, .int .u8 0, .int .u8 0, .int .u8 0, .int .u8 0, .int .u8 0, .int .u8 0, .int .u8 0, .int .u8 0, .int .u8 0, .int .u8 0, .int .u8 0, .int .u8 0, .int .u8 0, .int .u8 0, .int .u8 0, .int .u8 0, .int .u8 0, .int .u8 0, .int .u8 0, .int .u8 0, .int .u8 0, .int .u8 0, .int .u8 0, .int .u8 0, .int .u8 0, .int .u8 0, .int .u8 0, .int .u8 0, .int .u8 0, .int .u8 0])).run Tryd.prog W = .ok true W := KE5.out
  have KII1 := Kept.mk (id_infoL (idN_len 1))
  have KII5 := Kept.mk (id_infoL (idN_len 5))
  have KZ5 : Kept ((cellsK .u8 (idN 5)).toArray.size = 32) := ⟨by rw [List.size_toArray, cellsK_length, idN_len]⟩
  have KI5 := Kept.mk (id_info (idN_len 5))
  have KO5 := Kept.mk (cellsK_all .u8 (idN 5))
  have hlp : (PB.length : Int) = 1184 := by rw [KPL.out]; rfl
  clear hO5 hO6 hrg hb5 hb6 hbk6 hb46 hr32
  go_wp2_with (first | (refine BigFrame.wpList_want rfl (fun K hK => wp_store_row 24 _ _ rfl w5.heap.size (cellsK .u8 (idN 5)).toArray rfl rfl 24 _ (heap_alloc_new w5 _) KI5.out (by rw [KZ5.out]; rfl) KO5.out (hK _ _ ?_)); rw [World.setRow_alloc_new, hw6]) | (refine BigFrame.wpList_want rfl (fun K hK => wp_load_mid 24 _ rfl b off rfl (cellsK .u8 (idN 1)) _ KR6.out Tryd.underlying24 rfl KII1.out (hK _ _ ?_))) | (refine BigFrame.wpList_want rfl (fun K hK => wp_load_mid 24 _ rfl w5.heap.size 0 rfl (cellsK .u8 (idN 5)) _ KPk.out Tryd.underlying24 rfl KII5.out (hK _ _ ?_))))
  go_ret
  exact ⟨rfl, KB6.out⟩

open Go.RowKit Go.Sort

theorem fold_setL (off : Nat) : ∀ (L : List Value) (k : Nat) (C : Array Value), (L.zipIdx k).foldl (fun cs (x : Value × Nat) => cs.setIfInBounds (off + x.2) x.1) C = Sh.setL C (off + k) L
  | [], _, _ => rfl
  | v :: L, k, C => by
    rw [List.zipIdx_cons, List.foldl_cons, fold_setL off L (k + 1)]
    rfl
theorem setL_mid : ∀ (vs pre mid suf : List Value), mid.length = vs.length → Sh.setL (pre ++ mid ++ suf).toArray pre.length vs = (pre ++ vs ++ suf).toArray
  | [], pre, mid, suf, h => by
    have : mid = [] := List.eq_nil_of_length_eq_zero (by simpa using h)
    subst this
    rfl
  | v :: vs, pre, mid, suf, h => by
    cases mid with
    | nil => simp at h
    | cons s mid =>
      have e : (pre ++ s :: mid ++ suf).toArray.setIfInBounds pre.length v = ((pre ++ [v]) ++ mid ++ suf).toArray := by simp
      have ih := setL_mid vs (pre ++ [v]) mid suf (by simpa using h)
      rw [Sh.setL, e]
      simp only [List.length_append, List.length_singleton] at ih
      rw [ih]
      simp
theorem fill_cons (place : Nat → Option (Nat × Nat)) (i : Nat) (v : Value) (rest : List (Nat × Value)) (pre mid suf cs : List Value) (hp : place i = some (pre.length, mid.length)) (hc : v.cells = cs.toArray) (hl : cs.length = mid.length) :
    Instr.fill place (pre ++ mid ++ suf).toArray ((i, v) :: rest) = Instr.fill place (pre ++ cs ++ suf).toArray rest := by
  have h1 : v.cells.size = mid.length := by rw [hc, List.size_toArray, hl]
  have h2 : ¬ (v.cells.size ≠ mid.length || pre.length + v.cells.size > (pre ++ mid ++ suf).toArray.size) = true := by
    rw [h1]
    simp
  have h3 : v.cells.zipIdx.foldl (fun cs (x : Value × Nat) => cs.setIfInBounds (pre.length + x.2) x.1) (pre ++ mid ++ suf).toArray = (pre ++ cs ++ suf).toArray := by
    have := fold_setL pre.length cs 0 (pre ++ mid ++ suf).toArray
    rw [Nat.add_zero, setL_mid cs pre mid suf hl.symm] at this
    rw [← this, hc, ← Array.foldl_toList]
    simp
  rw [← h3]
  conv => lhs; rw [Instr.fill]
  rw [hp]
  simp only
  rw [if_neg h2]
def z34 : List Value := cellsK .u8 z32 ++ [.int .u32 0, .int .u64 0]
set_option maxRecDepth 100000 in
theorem built1 (X Y Z : Value) : Tryd.prog.built 39 [(0, X), (1, Y), (2, Z)] = Instr.fill ((#[(0, 32), (32, 1), (33, 1)] : Array (Nat × Nat))[·]?) z34.toArray [(0, X), (1, Y), (2, Z)] := by kernel_rfl
set_option maxRecDepth 100000 in
theorem built2 (X Y Z : Value) : Tryd.prog.built 42 [(0, X), (1, Y), (2, Z)] = Instr.fill ((#[(0, 32), (32, 1), (33, 1)] : Array (Nat × Nat))[·]?) z34.toArray [(0, X), (1, Y), (2, Z)] := by kernel_rfl
theorem fill_row (IL : List Value) (c p : Value) (hl : IL.length = 32) (hc : c.cells = #[c]) (hp : p.cells = #[p]) :
    Instr.fill ((#[(0, 32), (32, 1), (33, 1)] : Array (Nat × Nat))[·]?) z34.toArray [(0, .agg IL.toArray), (1, c), (2, p)] = some (IL ++ [c, p]).toArray := by
  have h32 : (cellsK .u8 z32).length = 32 := by rw [cellsK_length, z32_length]
  have e0 : z34 = [] ++ cellsK .u8 z32 ++ [Value.int .u32 0, Value.int .u64 0] := rfl
  rw [e0, fill_cons _ 0 _ _ [] (cellsK .u8 z32) [Value.int .u32 0, Value.int .u64 0] IL (by rw [h32]; rfl) rfl (by rw [hl, h32])]
  have e1 : [] ++ IL ++ [Value.int .u32 0, Value.int .u64 0] = IL ++ [Value.int .u32 0] ++ [Value.int .u64 0] := by simp
  rw [e1, fill_cons _ 1 c _ IL [Value.int .u32 0] [Value.int .u64 0] [c] (by rw [hl]; rfl) (by rw [hc]) rfl]
  have e2 : IL ++ [c] ++ [Value.int .u64 0] = (IL ++ [c]) ++ [Value.int .u64 0] ++ [] := by simp
  rw [e2, fill_cons _ 2 p _ (IL ++ [c]) [Value.int .u64 0] [] [p] (by rw [List.length_append, hl]; rfl) (by rw [hp]) rfl]
  unfold Instr.fill
  simp
theorem wpList_buildR {ops : Array Oper} {rest : List Oper} {o : Oper} {a : Act} {w : World} {Q : Exit → Act → World → Prop} (hg : o.guard = none) (t : TypeId) (o1 o2 o3 : Operand) (ho : o.op = .build t #[(0, o1), (1, o2), (2, o3)])
    (ht : ∀ X Y Z, Tryd.prog.built t [(0, X), (1, Y), (2, Z)] = Instr.fill ((#[(0, 32), (32, 1), (33, 1)] : Array (Nat × Nat))[·]?) z34.toArray [(0, X), (1, Y), (2, Z)])
    (IL : List Value) (hl : IL.length = 32) (c p : Int) (h1 : a.eval o1 = .agg IL.toArray) (h2 : a.eval o2 = .int .u32 c) (h3 : a.eval o3 = .int .u64 p)
    (h : wpList Tryd.prog ops Q rest (a.put o.dst (.agg (IL ++ [Value.int .u32 c, Value.int .u64 p]).toArray)) w) : wpList Tryd.prog ops Q (o :: rest) a w := by
  refine wpList_plain hg fun K hK => ?_
  have hb : Tryd.prog.built t [(0, Value.agg IL.toArray), (1, Value.int .u32 c), (2, Value.int .u64 p)] = some (IL ++ [Value.int .u32 c, Value.int .u64 p]).toArray := by
    rw [ht]
    exact fill_row IL _ _ hl rfl rfl
  have hr := run_build (P := Tryd.prog) w t #[(0, Value.agg IL.toArray), (1, Value.int .u32 c), (2, Value.int .u64 p)] _ hb
  unfold Oper.wp execOp
  simp only [ho, Sem.run_bind, List.map_toArray, List.map_cons, List.map_nil, h1, h2, h3, hr, Result.andThen_ok]
  exact hK _ _ h
theorem fill_one (IL : List Value) (hl : IL.length = 34) : Instr.fill (fun i => some (i * 34, 34)) z34.toArray [(0, .agg IL.toArray)] = some IL.toArray := by
  have e0 : z34 = [] ++ z34 ++ [] := by simp
  have h34 : z34.length = 34 := by unfold z34; rw [List.length_append, cellsK_length, z32_length]; rfl
  rw [e0, fill_cons _ 0 _ _ [] z34 [] IL (by rw [h34]; rfl) rfl (by rw [hl, h34])]
  unfold Instr.fill
  simp
/-- A slice of one row. -/
theorem wpList_sliceR {ops : Array Oper} {rest : List Oper} {o : Oper} {a : Act} {w : World} {Q : Exit → Act → World → Prop} (hg : o.guard = none) (t e : TypeId) (o1 : Operand) (ho : o.op = .buildSlice t 1 #[(0, o1)])
    (hu : Tryd.prog.underlying t = some (.slice e)) (he : ∃ i z, Tryd.prog.info? e = some i ∧ i.zero = some z ∧ i.size = 34 ∧ (Array.range (1 * 34)).map (z.cells[· % z.cells.size]!) = z34.toArray)
    (IL : List Value) (hl : IL.length = 34) (h1 : a.eval o1 = .agg IL.toArray)
    (h : wpList Tryd.prog ops Q rest (a.put o.dst (.slice (some ⟨w.heap.size, 0, none⟩) 1 1)) (w.alloc (.cells IL.toArray e))) : wpList Tryd.prog ops Q (o :: rest) a w := by
  obtain ⟨i, z, hi, hz, hs, hr⟩ := he
  refine wpList_buildSlice hg t e 1 _ ho IL.toArray i z hu hi hz (by rw [hs]; decide) (by rw [hs]; decide) ?_ h
  rw [hs, hr]
  simp only [List.map_toArray, List.map_cons, List.map_nil, h1]
  exact fill_one IL hl
set_option maxRecDepth 100000 in
theorem zeroR1 : ∃ i z, Tryd.prog.info? 39 = some i ∧ i.zero = some z ∧ i.size = 34 ∧ (Array.range (1 * 34)).map (z.cells[· % z.cells.size]!) = z34.toArray := ⟨_, _, rfl, rfl, rfl, by kernel_rfl⟩
set_option maxRecDepth 100000 in
theorem zeroR2 : ∃ i z, Tryd.prog.info? 42 = some i ∧ i.zero = some z ∧ i.size = 34 ∧ (Array.range (1 * 34)).map (z.cells[· % z.cells.size]!) = z34.toArray := ⟨_, _, rfl, rfl, rfl, by kernel_rfl⟩
theorem rdR_one (w : World) {r : RowC} (hr : r.ok) (e : TypeId) : RdR (w.alloc (.cells r.l.toArray e)) (.slice (some ⟨w.heap.size, 0, none⟩) 1 1) [r] := by
  have := own_made w (rs := [r]) (fun x hx => by simp at hx; subst hx; exact hr) e (by simp)
  have h2 : [r].flatMap RowC.l = r.l := by simp
  rw [h2] at this
  exact this.rdR
end Go.Proofs.YtgoegmaepafopaaDoor
