/-
  What the document's reader of commits guesses. (Pure.)
-/
import Derived.Test.YtkbalngddlhlpaaGreatDoorC6
import Derived.Test.YtkbalngddlhlpaaGreatDoorC8
import Derived.Test.YtkbalngddlhlpaaGreatDoorShD3
import Derived.Test.YtkbalngddlhlpaaGreatDoorC2
import Derived.Test.YtkbalngddlhlpaaGreatDoorO10C
import Derived.Test.YtkbalngddlhlpaaGreatDoorO14
namespace Go.Proofs.YtkbalngddlhlpaaGreatDoor
open Go.RowKit

def LnRC (t word a b : List UInt8) (ok : Bool) : Prop := (ok = true ∧ LnAt t word a b) ∨ (ok = false ∧ LnNo t word)
theorem ln_forceC {t word a b a' b' : List UInt8} {ok : Bool} (h : LnAt t word a' b') (g : LnRC t word a b ok) : ok = true ∧ a = a' ∧ b = b' := by
  rcases g with ⟨rfl, g⟩ | ⟨rfl, g⟩
  · have := ln_one g h
    exact ⟨rfl, this.1, this.2⟩
  · exact absurd h (g _ _)
theorem ln_at_sizeC {t word a b : ByteArray} (h : LnAt t.data.toList word.data.toList a.data.toList b.data.toList) : a.size ≤ t.size ∧ b.size ≤ t.size := by
  have := congrArg List.length h.1
  simp only [List.length_append, List.length_cons, ← Lib.size_eq] at this
  omega
def LnGC (t word : ByteArray) (w : World) (e : Ending) (w' : World) : Prop := ∃ (a b : ByteArray) (ok : Bool), e = .returned (.tuple #[.string a, .string b, .bool ok]) ∧ LnRC t.data.toList word.data.toList a.data.toList b.data.toList ok ∧ a.size ≤ t.size ∧ b.size ≤ t.size ∧ Below w.heap.size w w'
theorem lineGC_any (t word : ByteArray) (w : World) (hs : t.size ≤ 1048576) (hw : word.size ≤ 100) : Calls Tryz.prog 42 #[.string t, .string word] w (LnGC t word w) :=
  (line_any t word w hs hw).mono fun e w' h => by
    rcases h with ⟨h1, h2, h3⟩ | ⟨a, b, h1, h2, h3⟩
    · exact ⟨_, _, _, h2, .inr ⟨rfl, h1⟩, Nat.zero_le _, Nat.zero_le _, h3⟩
    · exact ⟨a, b, true, h2, .inl ⟨rfl, h1⟩, (ln_at_sizeC h1).1, (ln_at_sizeC h1).2, h3⟩
def PlS : List UInt8 → List (List Int) → List UInt8 → Prop
  | t, [], t' => t' = t
  | t, p :: ps, t' => ∃ a b, LnAt t wP a b ∧ p = Sh.parF ⟨a.toArray⟩ ∧ PlS b ps t'
theorem PlS.snoc : ∀ {ps : List (List Int)} {t t' a b : List UInt8}, PlS t ps t' → LnAt t' wP a b → PlS t (ps ++ [Sh.parF ⟨a.toArray⟩]) b
  | [], t, t', a, b, h, hp => by
    have h : t' = t := h
    subst h
    exact ⟨a, b, hp, rfl, rfl⟩
  | p :: ps, t, t', a, b, h, hp => by
    obtain ⟨x, y, h1, h2, h3⟩ := h
    exact ⟨x, y, h1, h2, PlS.snoc h3 hp⟩
theorem pas_ln {p : List Int} (h : IdOk p) (r : List UInt8) : LnAt (wP ++ 32 :: (hexU p ++ 10 :: r)) wP (hexU p) r := ⟨rfl, hexU_no _ h.2⟩
theorem cmR_no (c : CmC) : LnNo (cmR c) wP := fun rest behind h => by
  have h1 := congrArg List.head? h.1
  unfold cmR wA wP at h1
  simp at h1
theorem pls_pre {r : List UInt8} (hr : LnNo r wP) : ∀ {ps : List (List Int)}, (∀ p ∈ ps, IdOk p) → ∀ {qs : List (List Int)} {t2 : List UInt8}, PlS (pasU ps r) qs t2 → ∃ rest, ps = qs ++ rest ∧ t2 = pasU rest r
  | ps, _, [], t2, h => ⟨ps, rfl, h⟩
  | [], _, q :: qs, t2, h => by
    obtain ⟨a, b, h1, -, -⟩ := h
    exact absurd h1 (hr a b)
  | p :: ps, hok, q :: qs, t2, h => by
    have hp := hok p List.mem_cons_self
    obtain ⟨a, b, h1, h2, h3⟩ := h
    obtain ⟨rfl, rfl⟩ := ln_one h1 (pas_ln hp (pasU ps r))
    rw [par_hex hp] at h2
    obtain ⟨rest, e1, e2⟩ := pls_pre hr (fun q hq => hok q (List.mem_cons_of_mem _ hq)) h3
    exact ⟨rest, by rw [h2, e1]; rfl, e2⟩
def pcC (a : ByteArray) (qs : List (List Int)) (a3 a4 m : ByteArray) : CmC := ⟨Sh.parF a, qs, (prsF a3).1, (prsF a4).1, m⟩
theorem cm_force {t : List UInt8} {a1 t1 t2 a3 t3 a4 t4 : ByteArray} {qs : List (List Int)} {k3 k4 : Bool} (h1 : LnAt t wTr a1.data.toList t1.data.toList) (h2 : PlS t1.data.toList qs t2.data.toList) (hx : qs.length = 17 ∨ LnNo t2.data.toList wP)
    (h3 : LnRC t2.data.toList wA a3.data.toList t3.data.toList k3) (h4 : LnRC t3.data.toList wCo a4.data.toList t4.data.toList k4) {c : CmC} (hc : c.ok) (h0 : ceF c = 0) (he : cmU c = t) :
    k3 = true ∧ k4 = true ∧ t4.data.toList ≠ [] ∧ ∀ m : ByteArray, m.data.toList = t4.data.toList.drop 1 → pcC a1 qs a3 a4 m = c := by
  obtain ⟨f1, f2, f3, f4, f5⟩ := ceF_ok h0
  obtain ⟨g1, g2, g3⟩ := cm_lines hc h0
  rw [he] at g1
  obtain ⟨e1, e2⟩ := ln_one h1 g1
  rw [e2] at h2
  obtain ⟨rest, e3, e4⟩ := pls_pre (cmR_no c) hc.2.1 h2
  have hrest : rest = [] := by
    rcases hx with hx | hx
    · have := congrArg List.length e3
      rw [List.length_append] at this
      omega
    · cases rest with
      | nil => rfl
      | cons p rs =>
        exfalso
        rw [e4] at hx
        exact hx _ _ (pas_ln (hc.2.1 p (by rw [e3]; simp)) (pasU rs (cmR c)))
  subst hrest
  rw [List.append_nil] at e3
  have e4 : t2.data.toList = cmR c := e4
  rw [e4] at h3
  obtain ⟨e5, e6, e7⟩ := ln_forceC g2 h3
  rw [e7] at h4
  obtain ⟨e8, e9, e10⟩ := ln_forceC g3 h4
  refine ⟨e5, e8, by rw [e10]; simp, fun m hm => ?_⟩
  rw [e10, List.drop_one, List.tail_cons] at hm
  have b1 : a1 = ⟨(hexU c.tg).toArray⟩ := by rw [← e1]
  have b3 : a3 = putB c.ia := by rw [← back_ba a3, e6]
  have b4 : a4 = putB c.ic := by rw [← back_ba a4, e9]
  have bm : m = c.ms := by rw [← back_ba m, hm]
  unfold pcC
  rw [b1, b3, b4, bm, par_hex hc.1, prs_put f3, prs_put f4, ← e3]
theorem dc_none1 {xs : List Int} (hl : xs.length ≤ 1048576) (h : LnNo (strOfNums xs).data.toList wTr) : DcEnd xs cm0 4 :=
  .inr ⟨hl, .inr ⟨fun c hc h0 he => by
    have := (cm_lines hc h0).1
    rw [he] at this
    exact h _ _ this, rfl, rfl⟩⟩
theorem dc_none {xs : List Int} (hl : xs.length ≤ 1048576) {a1 t1 t2 a3 t3 a4 t4 : ByteArray} {qs : List (List Int)} {k3 k4 : Bool} (h1 : LnAt (strOfNums xs).data.toList wTr a1.data.toList t1.data.toList) (h2 : PlS t1.data.toList qs t2.data.toList) (hx : qs.length = 17 ∨ LnNo t2.data.toList wP)
    (h3 : LnRC t2.data.toList wA a3.data.toList t3.data.toList k3) (h4 : LnRC t3.data.toList wCo a4.data.toList t4.data.toList k4) (h : ¬ (k3 = true ∧ k4 = true ∧ t4.data.toList ≠ [])) : DcEnd xs cm0 4 :=
  .inr ⟨hl, .inr ⟨fun c hc h0 he => by
    obtain ⟨e1, e2, e3, -⟩ := cm_force h1 h2 hx h3 h4 hc h0 he
    exact h ⟨e1, e2, e3⟩, rfl, rfl⟩⟩
theorem dc_bad {xs : List Int} (hl : xs.length ≤ 1048576) {a1 t1 t2 a3 t3 a4 t4 m : ByteArray} {qs : List (List Int)} {k3 k4 : Bool} (h1 : LnAt (strOfNums xs).data.toList wTr a1.data.toList t1.data.toList) (h2 : PlS t1.data.toList qs t2.data.toList) (hx : qs.length = 17 ∨ LnNo t2.data.toList wP)
    (h3 : LnRC t2.data.toList wA a3.data.toList t3.data.toList k3) (h4 : LnRC t3.data.toList wCo a4.data.toList t4.data.toList k4) (hm : m.data.toList = t4.data.toList.drop 1) (h : ¬ (ceF (pcC a1 qs a3 a4 m) = 0 ∧ cmU (pcC a1 qs a3 a4 m) = (strOfNums xs).data.toList)) : DcEnd xs cm0 4 :=
  .inr ⟨hl, .inr ⟨fun c hc h0 he => by
    obtain ⟨-, -, -, e⟩ := cm_force h1 h2 hx h3 h4 hc h0 he
    rw [e m hm] at h
    exact h ⟨h0, he⟩, rfl, rfl⟩⟩
theorem cmL_bytes {c : CmC} (hok : c.ok) : Sh.AllB (cmL c) := by
  have hh : ∀ p, IdOk p → Sh.AllB (Sh.hexF p) := fun p hp => Sh.hexF_allB (fun y hy => hp.2 y hy)
  have hpa : Sh.AllB (pasL c.ps) := by
    intro x hx
    unfold pasL at hx
    obtain ⟨p, hp, hx⟩ := List.mem_flatMap.1 hx
    unfold paL at hx
    rcases List.mem_append.1 hx with hx | hx
    · rcases List.mem_append.1 hx with hx | hx
      · have : x ∈ ([112, 97, 114, 101, 110, 116, 32] : List Int) := hx
        simp only [List.mem_cons, List.not_mem_nil, or_false] at this
        omega
      · exact hh p (hok.2.1 p hp) x hx
    · simp only [List.mem_cons, List.not_mem_nil, or_false] at hx
      omega
  have c1 : Sh.AllB [116, 114, 101, 101] := fun x hx => by simp at hx; omega
  have c2 : Sh.AllB [10] := fun x hx => by simp at hx; omega
  have c3 : Sh.AllB [97, 117, 116, 104, 111, 114] := fun x hx => by simp at hx; omega
  have c4 : Sh.AllB [32] := fun x hx => by simp at hx; omega
  have c5 : Sh.AllB [99, 111, 109, 109, 105, 116, 116, 101, 114] := fun x hx => by simp at hx; omega
  unfold cmL
  repeat' apply allB_cat
  all_goals first | assumption | exact hh _ hok.1 | exact strL_allB _
theorem cmL_eq {c : CmC} (hok : c.ok) {xs : List Int} (hA : Sh.AllB xs) : cmL c = xs ↔ cmU c = (strOfNums xs).data.toList := by
  constructor
  · rintro rfl
    exact (cmL_U c).symm
  · intro h
    rw [← cmL_U] at h
    have := strs_eq (cmL_bytes hok) hA
    have e : strOfNums (cmL c) = strOfNums xs := by
      apply ByteArray.ext
      apply Array.ext'
      exact h
    rw [e] at this
    simp at this
    exact this


set_option maxHeartbeats 8000000 in
set_option maxRecDepth 100000 in
theorem docParseCommit_any (v : Value) (xs : List Int) (w : World) (hgl : Gl w) (hr : Rd .u8 anyB w v xs) (hA : Sh.AllB xs) :
    Calls Tryz.prog 18 #[v] w fun e w' => ∃ R pv E, e = .returned (.tuple #[.agg (R.l pv).toArray, .int .i64 E]) ∧ OwnP w' w.heap.size pv R.ps ∧ DcEnd xs R E ∧ Below w.heap.size w w' := by
  have hB0 : Below w.heap.size w (w.alloc (.cells (cm0.l pv0).toArray 40)) := (Below.refl _ _).alloc (Nat.le_refl _) _
  have hE0 : CmB (w.alloc (.cells (cm0.l pv0).toArray 40)) w.heap.size cm0 pv0 := heap_alloc_new w _
  obtain ⟨w0, hw0⟩ : ∃ w0, w.alloc (.cells (cm0.l pv0).toArray 40) = w0 := ⟨_, rfl⟩
  rw [hw0] at hB0 hE0
  obtain ⟨wz, hwz, hBz, hz0, hz1, hszz⟩ := two_cms w
  have hs0 : w0.heap.size = w.heap.size + 1 := by rw [← hw0]; simp
  have Ks0 := Kept.mk hs0
  rw [hw0] at hwz
  clear hs0
  have KRdw := Kept.mk hr
  have KRd := Kept.mk (hr.later hBz (Nat.le_refl _))
  obtain ⟨pa, pc, rfl, -, -, -, -⟩ := hr
  have KGl : Kept (∀ W, Below w.heap.size w W → Gl W) := ⟨fun W hW => hgl.later hW⟩
  have KA := Kept.mk hA
  clear hgl hA
  by_cases hl : 1048576 < xs.length
  · have hli : (1048576 : Int) < (xs.length : Int) := by omega
    have KE : Kept (DcEnd xs cm0 2) := ⟨.inl ⟨hl, rfl, rfl⟩⟩
    have KL := Kept.mk (cm_end rfl cm0_ok hE0 hE0 hB0)
    clear hl hB0 hE0 KRd KRdw hwz hBz hz0 hz1 hszz
    go_enter Tryz.func18, Tryz.ntmps18
    go_upto_region 1 with fail
    generalize hOb : Obj.cells (_ : Array Value) 40 = Ob
    have hOb2 : Ob = Obj.cells (cm0.l pv0).toArray 40 := by subst hOb; rfl
    subst hOb2
    clear hOb
    rw [hw0]
    clear hw0
    go_wp2_with (first | (refine wpList_store_mid rfl 40 _ _ rfl w.heap.size 0 (cm0.l pv0).toArray rfl rfl KL.out.th KL.out.il2 KL.out.ol ?_))
    refine bodyPost_ret (v := .tuple #[.agg (cm0.l pv0).toArray, .int .i64 2]) (Sh.results_row2 (p := 2) (u := 3) (ty := 40) Tryz.results18 _ _ w.heap.size 40 _ (0, 0) _ rfl KL.out.fin Tryz.underlying40 rfl KL.out.il2) rfl ⟨cm0, pv0, 2, rfl, OwnP.nil _ _, KE.out, KL.out.bf⟩
  · have hli : ¬ (1048576 : Int) < (xs.length : Int) := by omega
    have Kl : Kept (xs.length ≤ 1048576) := ⟨by omega⟩
    have hcv := KRd.out.str Tryz.underlying27 Tryz.underlying5 9 Tryz.underlying9
    obtain ⟨S, hS⟩ : ∃ S, strOfNums xs = S := ⟨_, rfl⟩
    have KS := Kept.mk hS
    rw [hS] at hcv
    have Ks1 : Kept (S.size ≤ 1048576) := ⟨by rw [← hS, strOfNums_size]; exact Kl.out⟩
    have L1 := Kept.mk (lineGC_any S ⟨wTr.toArray⟩ wz Ks1.out (by decide))
    have KFz := Kept.mk (rc_start hBz hz0 hz1 hszz)
    clear hl hB0 hE0 KRd hS hBz hz0 hz1 hszz
    go_enter Tryz.func18, Tryz.ntmps18
    go_upto_region 1 with fail
    generalize hOb : Obj.cells (_ : Array Value) 40 = Ob
    have hOb2 : Ob = Obj.cells (cm0.l pv0).toArray 40 := by subst hOb; rfl
    subst hOb2
    clear hOb
    rw [hw0]
    clear hw0
    go_upto_region 4 with fail
    generalize hOb : Obj.cells (_ : Array Value) 40 = Ob
    have hOb2 : Ob = Obj.cells (cm0.l pv0).toArray 40 := by subst hOb; rfl
    subst hOb2
    clear hOb
    rw [hwz, Ks0.out]
    clear hwz
    go_wp2_with fail
    refine Calls.mono L1.out (fun e w1 hp => ?_)
    obtain ⟨a1, t1, k1, rfl, hln, hsa, hst, hb⟩ := hp
    have KR1 := Kept.mk hln
    have Kt1 : Kept (t1.size ≤ 1048576) := ⟨Nat.le_trans hst Ks1.out⟩
    have KF1 := Kept.mk (KFz.out.later hb)
    clear hln hsa hst hb L1 hcv KFz
    cases hk1 : k1 with
    | false =>
      have KE : Kept (DcEnd xs cm0 4) := ⟨dc_none1 Kl.out (by
        rw [KS.out]
        rcases KR1.out with ⟨h1, -⟩ | ⟨-, h2⟩
        · rw [hk1] at h1; cases h1
        · exact h2)⟩
      have KL := Kept.mk (cm_end rfl cm0_ok KF1.out.b0 KF1.out.b0 KF1.out.be)
      clear hk1 KR1
      go_wp2_with (first | (refine wpList_store_mid rfl 40 _ _ rfl w.heap.size 0 (cm0.l pv0).toArray rfl rfl KL.out.th KL.out.il2 KL.out.ol ?_))
      refine bodyPost_ret (v := .tuple #[.agg (cm0.l pv0).toArray, .int .i64 4]) (Sh.results_row2 (p := 2) (u := 3) (ty := 40) Tryz.results18 _ _ w.heap.size 40 _ (0, 0) _ rfl KL.out.fin Tryz.underlying40 rfl KL.out.il2) rfl ⟨cm0, pv0, 4, rfl, OwnP.nil _ _, KE.out, KL.out.bf⟩
    | true =>
      have KR1x : Kept (LnAt (strOfNums xs).data.toList wTr a1.data.toList t1.data.toList) := ⟨by
        rw [KS.out]
        rcases KR1.out with ⟨-, h2⟩ | ⟨h1, -⟩
        · exact h2
        · rw [hk1] at h1; cases h1⟩
      have K2 := Kept.mk (Sh.docParse_any a1 w1)
      have KID := Kept.mk (parF_id a1)
      obtain ⟨IDS, hIDS⟩ : ∃ IDS, Sh.parF a1 = IDS := ⟨_, rfl⟩
      have KIDe := Kept.mk hIDS
      rw [hIDS] at K2 KID
      generalize Sh.parE a1 = PE at *
      clear hIDS hk1 KR1
      go_wp2_with fail
      refine Calls.mono K2.out (fun e w2 hp => ?_)
      obtain ⟨rfl, hb2⟩ := hp
      have KF2 := Kept.mk (KF1.out.later hb2)
      have KTh : Kept (w2.there (w.heap.size + 1) 0 (Sh.cellsU8 IDS).toArray.size) := ⟨KF2.out.bl.thereAt cm0_ok 0 _ (by rw [List.size_toArray, Sh.cellsU8_length, KID.out.1]; omega)⟩
      have KIi : Kept ((Tryz.prog.info? 31).map (·.size) = some (Sh.cellsU8 IDS).toArray.size) := ⟨by rw [List.size_toArray, Sh.cellsU8_length, KID.out.1]; kernel_rfl⟩
      have KOi : Kept ((Sh.cellsU8 IDS).toArray.all (·.oneCell') = true) := ⟨by rw [Array.all_eq_true_iff_forall_mem]; intro x hx; exact Sh.cellsU8_one _ x (by simpa using hx)⟩
      obtain ⟨w3, hw3⟩ : ∃ w3, w2.setCells (w.heap.size + 1) 0 (Sh.cellsU8 IDS) = w3 := ⟨_, rfl⟩
      have KF3 : Kept (RcF w w3 ⟨IDS, [], idt0, idt0, ⟨#[]⟩⟩ pv0) := ⟨by rw [← hw3]; exact KF2.out.setCells 0 _ rfl (KF2.out.bl.setTg cm0_ok KID.out.1)⟩
      have Kw3 := Kept.mk hw3
      clear hb2 K2 hw3 KF1
      obtain ⟨CI, hCI⟩ : ∃ CI, Sh.cellsU8 IDS = CI := ⟨_, rfl⟩
      rw [hCI] at KTh KIi KOi Kw3
      rw [hCI]
      clear hCI
      go_wp2_with (first | (refine wpList_store_mid rfl 31 _ _ rfl (w.heap.size + 1) 0 CI.toArray rfl rfl KTh.out KIi.out KOi.out ?_; rw [Kw3.out]))
      clear KTh KIi KOi Kw3 KF2
      go_loopw [6, 8] (fun tv iv wr => ∃ (k : Nat) (t2 : ByteArray) (ps : List (List Int)) (pv : Value), k ≤ 17 ∧ iv = .int .i64 k ∧ tv = .string t2 ∧ ps.length = k ∧ t2.size ≤ 1048576 ∧ PlS t1.data.toList ps t2.data.toList ∧ (∀ p ∈ ps, IdOk p) ∧ RcF w wr ⟨IDS, ps, idt0, idt0, ⟨#[]⟩⟩ pv) (fun _ iv _ => 17 - (intOf iv).toNat)
      case atStart => exact ⟨0, t1, [], pv0, by omega, rfl, rfl, rfl, Kt1.out, rfl, (fun _ h => by cases h), KF3.out⟩
      case round =>
        obtain ⟨k, t2, ps, pv, hk, rfl, rfl, hpk, ht2, hpl, hpo, hF⟩ := hrel
        have KF := Kept.mk hF
        have KPl := Kept.mk hpl
        have KPo := Kept.mk hpo
        have Kt2 := Kept.mk ht2
        clear KF3 hF hpl hpo ht2
        by_cases hlt : k ≤ 16
        · have hki : (k : Int) ≤ 16 := by omega
          have e1 : IntKind.i64.wrap ((k : Int) + 1) = (k : Int) + 1 := by rw [IntKind.wrap_i64]; omega
          have L5 := Kept.mk (lineGC_any t2 ⟨wP.toArray⟩ wr Kt2.out (by decide))
          go_wp2_with fail
          refine Calls.mono L5.out (fun e w5 hp => ?_)
          obtain ⟨a5, t5, k5, rfl, hln, hsa, hst, hb⟩ := hp
          have KR5 := Kept.mk hln
          have Kt5 : Kept (t5.size ≤ 1048576) := ⟨Nat.le_trans hst Kt2.out⟩
          have KF5 := Kept.mk (KF.out.later hb)
          clear hln hsa hst hb L5 KF
          cases hk5 : k5 with
          | true =>
            obtain ⟨rfl, hat⟩ : k5 = true ∧ LnAt t2.data.toList wP a5.data.toList t5.data.toList := by
              rcases KR5.out with ⟨h1, h2⟩ | ⟨h1, -⟩
              · exact ⟨h1, h2⟩
              · rw [hk5] at h1; cases h1
            have KSn := Kept.mk (KPl.out.snoc hat)
            have K6 := Kept.mk (Sh.docParse_any a5 w5)
            have KID5 := Kept.mk (parF_id a5)
            obtain ⟨ID5, hID5⟩ : ∃ ID5, Sh.parF a5 = ID5 := ⟨_, rfl⟩
            have hK6 : Sh.cellsU8 (Sh.parF a5) = cellsK .u8 ID5 := by rw [hID5]; rfl
            rw [hK6] at K6
            rw [back_ba, hID5] at KSn
            rw [hID5] at KID5
            generalize Sh.parE a5 = PE5 at *
            clear hat hID5 hK6
            go_wp2_with fail
            refine Calls.mono K6.out (fun e w6 hp => ?_)
            obtain ⟨rfl, hb⟩ := hp
            have KF6 := Kept.mk (KF5.out.later hb)
            clear hb K6 KF5
            have KIk := Kept.mk (id_infoL KID5.out)
            have KIk2 : Kept ((Tryz.prog.info? 31).map (·.size) = some (cellsK .u8 ID5).toArray.size) := ⟨by rw [List.size_toArray]; exact KIk.out⟩
            have KOk2 : Kept ((cellsK .u8 ID5).toArray.all (·.oneCell') = true) := ⟨all_oneCell_toArray (cellsK_one _ _)⟩
            have KSk : Kept ((cellsK .u8 ID5).toArray.size = 32) := ⟨by rw [List.size_toArray, cellsK_length]; exact KID5.out.1⟩
            have KLk : Kept ((cellsK .u8 ID5).length = 32) := ⟨by rw [cellsK_length]; exact KID5.out.1⟩
            obtain ⟨x2, hx2, hBx, hrx⟩ : ∃ x2, w6.alloc (.cells (cellsK .u8 ID5).toArray 31) = x2 ∧ Below w6.heap.size w6 x2 ∧ x2.rangeAt w6.heap.size 0 (cellsK .u8 ID5) := ⟨_, rfl, (Below.refl _ _).alloc (Nat.le_refl _) _, fun j u hu => by
              rw [Nat.zero_add, cell_of_row _ _ j _ 31 (0, 0) (heap_alloc_new w6 _)]
              simpa using hu⟩
            obtain ⟨x3, hx3, hBx3, hrx3⟩ : ∃ x3, x2.alloc (.cells (cellsK .u8 ID5).toArray 31) = x3 ∧ Below x2.heap.size x2 x3 ∧ x3.rangeAt x2.heap.size 0 (cellsK .u8 ID5) := ⟨_, rfl, (Below.refl _ _).alloc (Nat.le_refl _) _, fun j u hu => by
              rw [Nat.zero_add, cell_of_row _ _ j _ 31 (0, 0) (heap_alloc_new x2 _)]
              simpa using hu⟩
            have KFx := Kept.mk (KF6.out.later hBx)
            have KFx3 := Kept.mk (KFx.out.later hBx3)
            have KRx := Kept.mk hrx
            have KRx3 := Kept.mk hrx3
            have c32 := KFx.out.bl.cell (c := ⟨IDS, ps, idt0, idt0, ⟨#[]⟩⟩) (mk_cm _ _ KID.out KPo.out e_le) 0 _ rfl
            have KOw := Kept.mk KFx3.out.own
            have Kbs : Kept (w.heap.size + 2 ≤ x3.heap.size) := ⟨KFx3.out.sz⟩
            have KxE : Kept (x2.alloc (.cells (cellsK .u8 ID5).toArray 31) = x3) := ⟨hx3⟩
            clear hBx hrx hBx3 hrx3 KF6 hx3
            obtain ⟨PK, hPK⟩ : ∃ PK, cellsK .u8 ID5 = PK := ⟨_, rfl⟩
            have KPK := Kept.mk hPK
            rw [hPK] at KIk KIk2 KOk2 KSk KLk hx2 KRx KxE
            rw [hPK]
            clear hPK
            go_upto_region 14 with (first | (refine BigFrame.wpList_want rfl (fun K hK => wp_store_row 31 _ _ rfl w6.heap.size PK.toArray rfl rfl 31 _ (heap_alloc_new w6 _) KIk2.out (by rw [KSk.out]; rfl) KOk2.out (hK _ _ ?_)); rw [World.setRow_alloc_new]))
            try rw [hx2]
            clear hx2
            go_wp2_with (first | (refine wpList_load_mid rfl 31 _ rfl w6.heap.size 0 rfl PK _ KRx.out Tryz.underlying31 rfl KIk.out ?_) | (refine wpList_sliceP rfl _ rfl PK KLk.out rfl ?_; rw [KxE.out]) | (at_builtin; refine wpList_append_P _ rfl _ _ rfl (w.heap.size + 2) pv ps rfl KOw.out ID5 KID5.out x2.heap.size 1 rfl KRx3.out (by omega) Kbs.out ?_; intro pv' x4 ho4 hg4; obtain ⟨pa', n', cap', rfl, hn'⟩ := ho4.form; have hB4 : Below (w.heap.size + 2) x3 x4 := (Below.refl _ x3).grown hg4 Kbs.out (fun q hq => (KOw.out.lt q hq).1); have KFy := Kept.mk (KFx3.out.push (mk_cm _ _ KID.out KPo.out e_le) hB4 ho4); have d32 := (KFx3.out.bl.far hB4 (by omega)).cell (c := ⟨IDS, ps, idt0, idt0, ⟨#[]⟩⟩) (mk_cm _ _ KID.out KPo.out e_le) 0 _ rfl; have f32 := (KFx3.out.bl.far hB4 (by omega)).frozen 32; clear ho4 hg4 hB4 hn'))
            clear d32 f32 c32
            have KPo2 : Kept (∀ p ∈ ps ++ [ID5], IdOk p) := ⟨fun p hp => by
              rcases List.mem_append.1 hp with hp | hp
              · exact KPo.out p hp
              · rw [List.mem_singleton.1 hp]; exact KID5.out⟩
            go_roundw
            case rel => exact ⟨k + 1, t5, ps ++ [ID5], _, by omega, by go_num, rfl, by rw [List.length_append, hpk]; rfl, Kt5.out, KSn.out, KPo2.out, KFy.out⟩
            case measure => simp [intOf]; omega
          | false =>
            have KX : Kept (ps.length = 17 ∨ LnNo t2.data.toList wP) := ⟨.inr (by
              rcases KR5.out with ⟨h1, -⟩ | ⟨-, h2⟩
              · rw [hk5] at h1; cases h1
              · exact h2)⟩
            clear hk5 KR5
            obtain ⟨wr, hwr⟩ : ∃ wr, wr = w5 := ⟨_, rfl⟩
            subst hwr
            have KF := KF5
            clear KF5
            have L3 := Kept.mk (lineGC_any t2 ⟨wA.toArray⟩ wr Kt2.out (by decide))
            go_wp2_with fail
            refine Calls.mono L3.out (fun e w3 hp => ?_)
            obtain ⟨a3, t3, k3, rfl, hln, hsa, hst, hb⟩ := hp
            have KR3 := Kept.mk hln
            have Ksa3 : Kept (a3.size ≤ 1048576) := ⟨Nat.le_trans hsa Kt2.out⟩
            have Kt3 : Kept (t3.size ≤ 1048576) := ⟨Nat.le_trans hst Kt2.out⟩
            have KF3 := Kept.mk (KF.out.later hb)
            clear hln hsa hst hb L3
            have L4 := Kept.mk (lineGC_any t3 ⟨wCo.toArray⟩ w3 Kt3.out (by decide))
            go_wp2_with fail
            refine Calls.mono L4.out (fun e w4 hp => ?_)
            obtain ⟨a4, t4, k4, rfl, hln, hsa, hst, hb⟩ := hp
            have KR4 := Kept.mk hln
            have Ksa4 : Kept (a4.size ≤ 1048576) := ⟨Nat.le_trans hsa Kt3.out⟩
            have Kt4 : Kept (t4.size ≤ 1048576) := ⟨Nat.le_trans hst Kt3.out⟩
            have KF4 := Kept.mk (KF3.out.later hb)
            clear hln hsa hst hb L4 KF3 KF
            cases k3 with
            | false =>
              have KE : Kept (DcEnd xs cm0 4) := ⟨dc_none Kl.out KR1x.out KPl.out KX.out KR3.out KR4.out (by simp)⟩
              have KL := Kept.mk (cm_end rfl cm0_ok KF4.out.b0 KF4.out.b0 KF4.out.be)
              go_wp2_with (first | (refine wpList_store_mid rfl 40 _ _ rfl w.heap.size 0 (cm0.l pv0).toArray rfl rfl KL.out.th KL.out.il2 KL.out.ol ?_))
              refine bodyPost_ret (v := .tuple #[.agg (cm0.l pv0).toArray, .int .i64 4]) (Sh.results_row2 (p := 2) (u := 3) (ty := 40) Tryz.results18 _ _ w.heap.size 40 _ (0, 0) _ rfl KL.out.fin Tryz.underlying40 rfl KL.out.il2) rfl ⟨cm0, pv0, 4, rfl, OwnP.nil _ _, KE.out, KL.out.bf⟩
            | true =>
              cases k4 with
              | false =>
                have KE : Kept (DcEnd xs cm0 4) := ⟨dc_none Kl.out KR1x.out KPl.out KX.out KR3.out KR4.out (by simp)⟩
                have KL := Kept.mk (cm_end rfl cm0_ok KF4.out.b0 KF4.out.b0 KF4.out.be)
                go_wp2_with (first | (refine wpList_store_mid rfl 40 _ _ rfl w.heap.size 0 (cm0.l pv0).toArray rfl rfl KL.out.th KL.out.il2 KL.out.ol ?_))
                refine bodyPost_ret (v := .tuple #[.agg (cm0.l pv0).toArray, .int .i64 4]) (Sh.results_row2 (p := 2) (u := 3) (ty := 40) Tryz.results18 _ _ w.heap.size 40 _ (0, 0) _ rfl KL.out.fin Tryz.underlying40 rfl KL.out.il2) rfl ⟨cm0, pv0, 4, rfl, OwnP.nil _ _, KE.out, KL.out.bf⟩
              | true =>
                by_cases h4 : t4.data.toList = []
                · have hq4 : (t4.toList == []) = true := by rw [Lib.toList_data, h4]; rfl
                  have KE : Kept (DcEnd xs cm0 4) := ⟨dc_none Kl.out KR1x.out KPl.out KX.out KR3.out KR4.out (fun h => h.2.2 h4)⟩
                  have KL := Kept.mk (cm_end rfl cm0_ok KF4.out.b0 KF4.out.b0 KF4.out.be)
                  clear h4
                  go_wp2_with (first | (refine wpList_store_mid rfl 40 _ _ rfl w.heap.size 0 (cm0.l pv0).toArray rfl rfl KL.out.th KL.out.il2 KL.out.ol ?_))
                  refine bodyPost_ret (v := .tuple #[.agg (cm0.l pv0).toArray, .int .i64 4]) (Sh.results_row2 (p := 2) (u := 3) (ty := 40) Tryz.results18 _ _ w.heap.size 40 _ (0, 0) _ rfl KL.out.fin Tryz.underlying40 rfl KL.out.il2) rfl ⟨cm0, pv0, 4, rfl, OwnP.nil _ _, KE.out, KL.out.bf⟩
                · have hq4 : (t4.toList == []) = false := by rw [Lib.toList_data]; exact beq_eq_false_iff_ne.2 h4
                  have hs1 : (1 : Int) ≤ (t4.size : Int) := by
                    have : t4.data.toList.length ≠ 0 := fun h => h4 (List.eq_nil_of_length_eq_zero h)
                    rw [← Lib.size_eq] at this
                    omega
                  have KM : Kept ((t4.extract 1 t4.size).data.toList = t4.data.toList.drop 1) := ⟨by rw [ext_list, List.take_of_length_le (by rw [List.length_drop, ← Lib.size_eq]; exact Nat.le_refl _)]⟩
                  have KMs : Kept ((t4.extract 1 t4.size).size ≤ 1048576) := ⟨by rw [Lib.size_eq, KM.out, List.length_drop, ← Lib.size_eq]; have := Kt4.out; omega⟩
                  clear h4
                  have K5 : Kept (Calls Tryz.prog 44 #[.string a3] w4 fun e w' => e = .returned (.tuple #[.agg (igL (prsF a3).1).toArray, .int .i64 (prsF a3).2]) ∧ Below w4.heap.size w4 w') := ⟨(docParseIdent_any a3 w4 (KGl.out w4 KF4.out.be) (by have := Ksa3.out; omega)).mono fun e w' hp => by
                    obtain ⟨p, q, hp1, hq1, he, hb⟩ := hp.out
                    rw [dp_prs hp1 hq1] at he
                    exact ⟨he, hb⟩⟩
                  generalize (prsF a3).2 = E5 at *
                  obtain ⟨ia, hia⟩ : ∃ i, (prsF a3).1 = i := ⟨_, rfl⟩
                  rw [hia] at K5
                  have Kiae := Kept.mk hia
                  have KI5 : Kept ((Tryz.prog.info? 38).map (·.size) = some (igL ia).toArray.size) := ⟨by rw [List.size_toArray]; exact igL_info ia⟩
                  have KO5 := Kept.mk (igL_all ia)
                  obtain ⟨G5, hG5⟩ : ∃ G, igL ia = G := ⟨_, rfl⟩
                  have KG5 := Kept.mk hG5
                  rw [hG5] at K5 KI5 KO5
                  clear hG5 hia
                  go_wp2_with fail
                  refine Calls.mono K5.out (fun e w5 hp => ?_)
                  obtain ⟨rfl, hb⟩ := hp
                  have KF5 := Kept.mk (KF4.out.later hb)
                  have KT5 : Kept (w5.there (w.heap.size + 1) 33 G5.toArray.size) := ⟨KF5.out.bl.thereAt (mk_cm _ _ KID.out KPo.out e_le) 33 _ (by rw [← KG5.out]; show 33 + 4 ≤ 42; omega)⟩
                  obtain ⟨w6, hw6⟩ : ∃ w6, w5.setCells (w.heap.size + 1) 33 G5 = w6 := ⟨_, rfl⟩
                  have KF6 : Kept (RcF w w6 ⟨IDS, ps, ia, idt0, ⟨#[]⟩⟩ pv) := ⟨by rw [← hw6, ← KG5.out]; exact KF5.out.setCells 33 _ rfl (KF5.out.bl.setIa (mk_cm _ _ KID.out KPo.out e_le) ia)⟩
                  have Kw6 := Kept.mk hw6
                  clear hb K5 KF4 hw6 KF5
                  have K7 : Kept (Calls Tryz.prog 44 #[.string a4] w6 fun e w' => e = .returned (.tuple #[.agg (igL (prsF a4).1).toArray, .int .i64 (prsF a4).2]) ∧ Below w6.heap.size w6 w') := ⟨(docParseIdent_any a4 w6 (KGl.out w6 KF6.out.be) (by have := Ksa4.out; omega)).mono fun e w' hp => by
                    obtain ⟨p, q, hp1, hq1, he, hb⟩ := hp.out
                    rw [dp_prs hp1 hq1] at he
                    exact ⟨he, hb⟩⟩
                  generalize (prsF a4).2 = E7 at *
                  obtain ⟨ic, hic⟩ : ∃ i, (prsF a4).1 = i := ⟨_, rfl⟩
                  rw [hic] at K7
                  have Kice := Kept.mk hic
                  have KI7 : Kept ((Tryz.prog.info? 38).map (·.size) = some (igL ic).toArray.size) := ⟨by rw [List.size_toArray]; exact igL_info ic⟩
                  have KO7 := Kept.mk (igL_all ic)
                  obtain ⟨G7, hG7⟩ : ∃ G, igL ic = G := ⟨_, rfl⟩
                  have KG7 := Kept.mk hG7
                  rw [hG7] at K7 KI7 KO7
                  clear hG7 hic
                  go_wp2_with (first | (refine wpList_store_mid rfl 38 _ _ rfl (w.heap.size + 1) 33 G5.toArray rfl rfl KT5.out KI5.out KO5.out ?_; rw [Kw6.out]))
                  refine Calls.mono K7.out (fun e w7 hp => ?_)
                  obtain ⟨rfl, hb⟩ := hp
                  have KF7 := Kept.mk (KF6.out.later hb)
                  have KT7 : Kept (w7.there (w.heap.size + 1) 37 G7.toArray.size) := ⟨KF7.out.bl.thereAt (mk_cm _ _ KID.out KPo.out e_le) 37 _ (by rw [← KG7.out]; show 37 + 4 ≤ 42; omega)⟩
                  obtain ⟨w8, hw8⟩ : ∃ w8, w7.setCells (w.heap.size + 1) 37 G7 = w8 := ⟨_, rfl⟩
                  have KF8 : Kept (RcF w w8 ⟨IDS, ps, ia, ic, ⟨#[]⟩⟩ pv) := ⟨by rw [← hw8, ← KG7.out]; exact KF7.out.setCells 37 _ rfl (KF7.out.bl.setIc (mk_cm _ _ KID.out KPo.out e_le) ic)⟩
                  have Kw8 := Kept.mk hw8
                  have c41 := KF8.out.bl.cell (mk_cm _ _ KID.out KPo.out e_le) 9 _ rfl
                  have f41 := KF8.out.bl.frozen 41
                  obtain ⟨MS, hMS⟩ : ∃ MS, t4.extract 1 t4.size = MS := ⟨_, rfl⟩
                  rw [hMS] at KM KMs
                  obtain ⟨w9, hw9⟩ : ∃ w9, w8.setCell ⟨w.heap.size + 1, 41, none⟩ (.string MS) = w9 := ⟨_, rfl⟩
                  have KF9 : Kept (RcF w w9 ⟨IDS, ps, ia, ic, MS⟩ pv) := ⟨by rw [← hw9]; exact KF8.out.setCell 41 _ rfl (KF8.out.bl.setMs (mk_cm _ _ KID.out KPo.out e_le) MS)⟩
                  have Kw9 := Kept.mk hw9
                  clear hb K7 KF6 hw8 KF7 KF8 hw9
                  have hokR : (CmC.mk IDS ps ia ic MS).ok := mk_cm _ _ KID.out KPo.out KMs.out
                  have KRb : Kept (¬ (ceF (CmC.mk IDS ps ia ic MS) = 0 ∧ cmU (CmC.mk IDS ps ia ic MS) = (strOfNums xs).data.toList) → DcEnd xs cm0 4) := ⟨fun h => by
                    have h' := dc_bad Kl.out KR1x.out KPl.out KX.out KR3.out KR4.out KM.out
                    unfold pcC at h'
                    rw [KIDe.out, Kiae.out, Kice.out] at h'
                    exact h' h⟩
                  generalize CmC.mk IDS ps ia ic MS = R at *
                  have Kok := Kept.mk hokR
                  have KRps : Kept (OwnP w9 (w.heap.size + 2) pv R.ps) := ⟨KF9.out.own⟩
                  have KRg := Kept.mk KF9.out.bl.range
                  have KIl : Kept ((Tryz.prog.info? 40).map (·.size) = some (R.l pv).length) := ⟨cm_info hokR⟩
                  have KTe := Kept.mk (cmL_eq hokR KA.out)
                  have KTb := Kept.mk (cmL_bytes hokR)
                  have Kone := Kept.mk KF9.out.own.one
                  obtain ⟨pa1, pn1, pc1, hpv, hpn⟩ := KF9.out.own.form
                  have K10 : Kept (Calls Tryz.prog 45 #[.agg (R.l pv).toArray] w9 fun e w' => e = .returned (.int .i64 (ceF R)) ∧ Below w9.heap.size w9 w') := ⟨by rw [hpv, hpn]; exact dcommit_any R pa1 pc1 w9 hokR⟩
                  have K11 : Kept (ceF R = 0 → ∀ W, Below w9.heap.size w9 W → Calls Tryz.prog 46 #[.agg (R.l pv).toArray] W fun e w' => ∃ v', e = .returned v' ∧ Rd .u8 anyB w' v' (cmL R) ∧ Below W.heap.size W w') := ⟨fun h W hW => dCommit_any R pv W (KGl.out W (KF9.out.be.trans (hW.mono KF9.out.be.size))) Kok.out (KRps.out.later hW (Nat.le_refl _)).rdP h⟩
                  clear hokR hpv hpn
                  obtain ⟨RL, hRL⟩ : ∃ RL, R.l pv = RL := ⟨_, rfl⟩
                  have KRL := Kept.mk hRL
                  rw [hRL] at K10 K11 KRg KIl
                  clear hRL
                  generalize hTF : ceF R = TF at *
                  have KTF := Kept.mk hTF
                  clear hTF
                  go_wp2_with (first | (refine wpList_store_mid rfl 38 _ _ rfl (w.heap.size + 1) 37 G7.toArray rfl rfl KT7.out KI7.out KO7.out ?_; rw [Kw8.out]) | (refine wpList_load_mid rfl 40 _ rfl (w.heap.size + 1) 0 rfl RL _ KRg.out Tryz.underlying40 rfl KIl.out ?_) | (rw [hMS]; rw [Kw9.out]) | (rw [Kw9.out]))
                  refine Calls.mono K10.out (fun e w10 hp => ?_)
                  obtain ⟨rfl, hb⟩ := hp
                  have KF10 := Kept.mk (KF9.out.later hb)
                  have K910 := Kept.mk hb
                  clear hb K10 KRg KF9 c41 f41
                  by_cases hz : TF = 0
                  · subst hz
                    have KRg := Kept.mk KF10.out.bl.range
                    rw [KRL.out] at KRg
                    have K12 := Kept.mk (K11.out rfl w10 K910.out)
                    clear K11
                    go_wp2_with (first | (refine BigFrame.wpList_want rfl (fun K hK => wp_load_mid 40 _ rfl (w.heap.size + 1) 0 rfl RL _ KRg.out Tryz.underlying40 rfl KIl.out (hK _ _ ?_)); clear hK K))
                    refine Calls.mono K12.out (fun e w12 hp => ?_)
                    obtain ⟨v12, rfl, hrd, hb⟩ := hp
                    have KF12 := Kept.mk (KF10.out.later hb)
                    have K13 := Kept.mk (Sh.same_any v12 (.slice pa xs.length pc) (cmL R) xs w12 (shRd hrd KTb.out) (shRd (KRdw.out.later KF12.out.be (Nat.le_refl _)) KA.out))
                    clear hrd hb K12 KRg KF10
                    go_wp2_with fail
                    refine Calls.mono K13.out (fun e w13 hp => ?_)
                    obtain ⟨rfl, hw13⟩ := hp
                    have hw13 := hw13.symm
                    subst hw13
                    clear K13
                    by_cases hq : cmL R = xs
                    · have hqd : decide (cmL R = xs) = true := decide_eq_true hq
                      have KE : Kept (DcEnd xs R 0) := ⟨.inr ⟨Kl.out, .inl ⟨Kok.out, KTF.out, KTe.out.1 hq, rfl⟩⟩⟩
                      have KL := Kept.mk (cm_end Kone.out Kok.out KF12.out.bl KF12.out.b0 KF12.out.be)
                      have KOf : Kept (OwnP (w12.setCells w.heap.size 0 (R.l pv)) w.heap.size pv R.ps) := ⟨(KF12.out.own.far fun g hg => by
                        have hlt := (KF12.out.own.lt g hg).1
                        rw [Sh.heap_setCells_far _ _ (by omega)]).mono (by omega)⟩
                      rw [KRL.out] at KL KOf
                      rw [hqd]
                      clear hq hqd KRb KTe
                      go_wp2_with (first | (refine wpList_load_mid rfl 40 _ rfl (w.heap.size + 1) 0 rfl RL _ KL.out.rg Tryz.underlying40 rfl KL.out.il ?_) | (refine wpList_store_mid rfl 40 _ _ rfl w.heap.size 0 RL.toArray rfl rfl KL.out.th KL.out.il2 KL.out.ol ?_))
                      refine bodyPost_ret (v := .tuple #[.agg RL.toArray, .int .i64 0]) (Sh.results_row2 (p := 2) (u := 3) (ty := 40) Tryz.results18 _ _ w.heap.size 40 _ (0, 0) _ rfl KL.out.fin Tryz.underlying40 rfl KL.out.il2) rfl ⟨R, pv, 0, by rw [← KRL.out], KOf.out, KE.out, KL.out.bf⟩
                    · have hqd : decide (cmL R = xs) = false := decide_eq_false hq
                      have KE : Kept (DcEnd xs cm0 4) := ⟨KRb.out fun h => hq (KTe.out.2 h.2)⟩
                      have KL := Kept.mk (cm_end rfl cm0_ok KF12.out.b0 KF12.out.b0 KF12.out.be)
                      rw [hqd]
                      clear hq hqd KRb KTe
                      go_wp2_with (first | (refine wpList_store_mid rfl 40 _ _ rfl w.heap.size 0 (cm0.l pv0).toArray rfl rfl KL.out.th KL.out.il2 KL.out.ol ?_))
                      refine bodyPost_ret (v := .tuple #[.agg (cm0.l pv0).toArray, .int .i64 4]) (Sh.results_row2 (p := 2) (u := 3) (ty := 40) Tryz.results18 _ _ w.heap.size 40 _ (0, 0) _ rfl KL.out.fin Tryz.underlying40 rfl KL.out.il2) rfl ⟨cm0, pv0, 4, rfl, OwnP.nil _ _, KE.out, KL.out.bf⟩
                  · have hzb : (TF != 0) = true := by simpa using hz
                    have KE : Kept (DcEnd xs cm0 4) := ⟨KRb.out fun h => hz h.1⟩
                    have KL := Kept.mk (cm_end rfl cm0_ok KF10.out.b0 KF10.out.b0 KF10.out.be)
                    clear hz KRb
                    go_wp2_with (first | (refine wpList_store_mid rfl 40 _ _ rfl w.heap.size 0 (cm0.l pv0).toArray rfl rfl KL.out.th KL.out.il2 KL.out.ol ?_))
                    refine bodyPost_ret (v := .tuple #[.agg (cm0.l pv0).toArray, .int .i64 4]) (Sh.results_row2 (p := 2) (u := 3) (ty := 40) Tryz.results18 _ _ w.heap.size 40 _ (0, 0) _ rfl KL.out.fin Tryz.underlying40 rfl KL.out.il2) rfl ⟨cm0, pv0, 4, rfl, OwnP.nil _ _, KE.out, KL.out.bf⟩
        · have hki : ¬ (k : Int) ≤ 16 := by omega
          have KX : Kept (ps.length = 17 ∨ LnNo t2.data.toList wP) := ⟨.inl (by omega)⟩
          clear hlt
          have L3 := Kept.mk (lineGC_any t2 ⟨wA.toArray⟩ wr Kt2.out (by decide))
          go_wp2_with fail
          refine Calls.mono L3.out (fun e w3 hp => ?_)
          obtain ⟨a3, t3, k3, rfl, hln, hsa, hst, hb⟩ := hp
          have KR3 := Kept.mk hln
          have Ksa3 : Kept (a3.size ≤ 1048576) := ⟨Nat.le_trans hsa Kt2.out⟩
          have Kt3 : Kept (t3.size ≤ 1048576) := ⟨Nat.le_trans hst Kt2.out⟩
          have KF3 := Kept.mk (KF.out.later hb)
          clear hln hsa hst hb L3
          have L4 := Kept.mk (lineGC_any t3 ⟨wCo.toArray⟩ w3 Kt3.out (by decide))
          go_wp2_with fail
          refine Calls.mono L4.out (fun e w4 hp => ?_)
          obtain ⟨a4, t4, k4, rfl, hln, hsa, hst, hb⟩ := hp
          have KR4 := Kept.mk hln
          have Ksa4 : Kept (a4.size ≤ 1048576) := ⟨Nat.le_trans hsa Kt3.out⟩
          have Kt4 : Kept (t4.size ≤ 1048576) := ⟨Nat.le_trans hst Kt3.out⟩
          have KF4 := Kept.mk (KF3.out.later hb)
          clear hln hsa hst hb L4 KF3 KF
          cases k3 with
          | false =>
            have KE : Kept (DcEnd xs cm0 4) := ⟨dc_none Kl.out KR1x.out KPl.out KX.out KR3.out KR4.out (by simp)⟩
            have KL := Kept.mk (cm_end rfl cm0_ok KF4.out.b0 KF4.out.b0 KF4.out.be)
            go_wp2_with (first | (refine wpList_store_mid rfl 40 _ _ rfl w.heap.size 0 (cm0.l pv0).toArray rfl rfl KL.out.th KL.out.il2 KL.out.ol ?_))
            refine bodyPost_ret (v := .tuple #[.agg (cm0.l pv0).toArray, .int .i64 4]) (Sh.results_row2 (p := 2) (u := 3) (ty := 40) Tryz.results18 _ _ w.heap.size 40 _ (0, 0) _ rfl KL.out.fin Tryz.underlying40 rfl KL.out.il2) rfl ⟨cm0, pv0, 4, rfl, OwnP.nil _ _, KE.out, KL.out.bf⟩
          | true =>
            cases k4 with
            | false =>
              have KE : Kept (DcEnd xs cm0 4) := ⟨dc_none Kl.out KR1x.out KPl.out KX.out KR3.out KR4.out (by simp)⟩
              have KL := Kept.mk (cm_end rfl cm0_ok KF4.out.b0 KF4.out.b0 KF4.out.be)
              go_wp2_with (first | (refine wpList_store_mid rfl 40 _ _ rfl w.heap.size 0 (cm0.l pv0).toArray rfl rfl KL.out.th KL.out.il2 KL.out.ol ?_))
              refine bodyPost_ret (v := .tuple #[.agg (cm0.l pv0).toArray, .int .i64 4]) (Sh.results_row2 (p := 2) (u := 3) (ty := 40) Tryz.results18 _ _ w.heap.size 40 _ (0, 0) _ rfl KL.out.fin Tryz.underlying40 rfl KL.out.il2) rfl ⟨cm0, pv0, 4, rfl, OwnP.nil _ _, KE.out, KL.out.bf⟩
            | true =>
              by_cases h4 : t4.data.toList = []
              · have hq4 : (t4.toList == []) = true := by rw [Lib.toList_data, h4]; rfl
                have KE : Kept (DcEnd xs cm0 4) := ⟨dc_none Kl.out KR1x.out KPl.out KX.out KR3.out KR4.out (fun h => h.2.2 h4)⟩
                have KL := Kept.mk (cm_end rfl cm0_ok KF4.out.b0 KF4.out.b0 KF4.out.be)
                clear h4
                go_wp2_with (first | (refine wpList_store_mid rfl 40 _ _ rfl w.heap.size 0 (cm0.l pv0).toArray rfl rfl KL.out.th KL.out.il2 KL.out.ol ?_))
                refine bodyPost_ret (v := .tuple #[.agg (cm0.l pv0).toArray, .int .i64 4]) (Sh.results_row2 (p := 2) (u := 3) (ty := 40) Tryz.results18 _ _ w.heap.size 40 _ (0, 0) _ rfl KL.out.fin Tryz.underlying40 rfl KL.out.il2) rfl ⟨cm0, pv0, 4, rfl, OwnP.nil _ _, KE.out, KL.out.bf⟩
              · have hq4 : (t4.toList == []) = false := by rw [Lib.toList_data]; exact beq_eq_false_iff_ne.2 h4
                have hs1 : (1 : Int) ≤ (t4.size : Int) := by
                  have : t4.data.toList.length ≠ 0 := fun h => h4 (List.eq_nil_of_length_eq_zero h)
                  rw [← Lib.size_eq] at this
                  omega
                have KM : Kept ((t4.extract 1 t4.size).data.toList = t4.data.toList.drop 1) := ⟨by rw [ext_list, List.take_of_length_le (by rw [List.length_drop, ← Lib.size_eq]; exact Nat.le_refl _)]⟩
                have KMs : Kept ((t4.extract 1 t4.size).size ≤ 1048576) := ⟨by rw [Lib.size_eq, KM.out, List.length_drop, ← Lib.size_eq]; have := Kt4.out; omega⟩
                clear h4
                have K5 : Kept (Calls Tryz.prog 44 #[.string a3] w4 fun e w' => e = .returned (.tuple #[.agg (igL (prsF a3).1).toArray, .int .i64 (prsF a3).2]) ∧ Below w4.heap.size w4 w') := ⟨(docParseIdent_any a3 w4 (KGl.out w4 KF4.out.be) (by have := Ksa3.out; omega)).mono fun e w' hp => by
                  obtain ⟨p, q, hp1, hq1, he, hb⟩ := hp.out
                  rw [dp_prs hp1 hq1] at he
                  exact ⟨he, hb⟩⟩
                generalize (prsF a3).2 = E5 at *
                obtain ⟨ia, hia⟩ : ∃ i, (prsF a3).1 = i := ⟨_, rfl⟩
                rw [hia] at K5
                have Kiae := Kept.mk hia
                have KI5 : Kept ((Tryz.prog.info? 38).map (·.size) = some (igL ia).toArray.size) := ⟨by rw [List.size_toArray]; exact igL_info ia⟩
                have KO5 := Kept.mk (igL_all ia)
                obtain ⟨G5, hG5⟩ : ∃ G, igL ia = G := ⟨_, rfl⟩
                have KG5 := Kept.mk hG5
                rw [hG5] at K5 KI5 KO5
                clear hG5 hia
                go_wp2_with fail
                refine Calls.mono K5.out (fun e w5 hp => ?_)
                obtain ⟨rfl, hb⟩ := hp
                have KF5 := Kept.mk (KF4.out.later hb)
                have KT5 : Kept (w5.there (w.heap.size + 1) 33 G5.toArray.size) := ⟨KF5.out.bl.thereAt (mk_cm _ _ KID.out KPo.out e_le) 33 _ (by rw [← KG5.out]; show 33 + 4 ≤ 42; omega)⟩
                obtain ⟨w6, hw6⟩ : ∃ w6, w5.setCells (w.heap.size + 1) 33 G5 = w6 := ⟨_, rfl⟩
                have KF6 : Kept (RcF w w6 ⟨IDS, ps, ia, idt0, ⟨#[]⟩⟩ pv) := ⟨by rw [← hw6, ← KG5.out]; exact KF5.out.setCells 33 _ rfl (KF5.out.bl.setIa (mk_cm _ _ KID.out KPo.out e_le) ia)⟩
                have Kw6 := Kept.mk hw6
                clear hb K5 KF4 hw6 KF5
                have K7 : Kept (Calls Tryz.prog 44 #[.string a4] w6 fun e w' => e = .returned (.tuple #[.agg (igL (prsF a4).1).toArray, .int .i64 (prsF a4).2]) ∧ Below w6.heap.size w6 w') := ⟨(docParseIdent_any a4 w6 (KGl.out w6 KF6.out.be) (by have := Ksa4.out; omega)).mono fun e w' hp => by
                  obtain ⟨p, q, hp1, hq1, he, hb⟩ := hp.out
                  rw [dp_prs hp1 hq1] at he
                  exact ⟨he, hb⟩⟩
                generalize (prsF a4).2 = E7 at *
                obtain ⟨ic, hic⟩ : ∃ i, (prsF a4).1 = i := ⟨_, rfl⟩
                rw [hic] at K7
                have Kice := Kept.mk hic
                have KI7 : Kept ((Tryz.prog.info? 38).map (·.size) = some (igL ic).toArray.size) := ⟨by rw [List.size_toArray]; exact igL_info ic⟩
                have KO7 := Kept.mk (igL_all ic)
                obtain ⟨G7, hG7⟩ : ∃ G, igL ic = G := ⟨_, rfl⟩
                have KG7 := Kept.mk hG7
                rw [hG7] at K7 KI7 KO7
                clear hG7 hic
                go_wp2_with (first | (refine wpList_store_mid rfl 38 _ _ rfl (w.heap.size + 1) 33 G5.toArray rfl rfl KT5.out KI5.out KO5.out ?_; rw [Kw6.out]))
                refine Calls.mono K7.out (fun e w7 hp => ?_)
                obtain ⟨rfl, hb⟩ := hp
                have KF7 := Kept.mk (KF6.out.later hb)
                have KT7 : Kept (w7.there (w.heap.size + 1) 37 G7.toArray.size) := ⟨KF7.out.bl.thereAt (mk_cm _ _ KID.out KPo.out e_le) 37 _ (by rw [← KG7.out]; show 37 + 4 ≤ 42; omega)⟩
                obtain ⟨w8, hw8⟩ : ∃ w8, w7.setCells (w.heap.size + 1) 37 G7 = w8 := ⟨_, rfl⟩
                have KF8 : Kept (RcF w w8 ⟨IDS, ps, ia, ic, ⟨#[]⟩⟩ pv) := ⟨by rw [← hw8, ← KG7.out]; exact KF7.out.setCells 37 _ rfl (KF7.out.bl.setIc (mk_cm _ _ KID.out KPo.out e_le) ic)⟩
                have Kw8 := Kept.mk hw8
                have c41 := KF8.out.bl.cell (mk_cm _ _ KID.out KPo.out e_le) 9 _ rfl
                have f41 := KF8.out.bl.frozen 41
                obtain ⟨MS, hMS⟩ : ∃ MS, t4.extract 1 t4.size = MS := ⟨_, rfl⟩
                rw [hMS] at KM KMs
                obtain ⟨w9, hw9⟩ : ∃ w9, w8.setCell ⟨w.heap.size + 1, 41, none⟩ (.string MS) = w9 := ⟨_, rfl⟩
                have KF9 : Kept (RcF w w9 ⟨IDS, ps, ia, ic, MS⟩ pv) := ⟨by rw [← hw9]; exact KF8.out.setCell 41 _ rfl (KF8.out.bl.setMs (mk_cm _ _ KID.out KPo.out e_le) MS)⟩
                have Kw9 := Kept.mk hw9
                clear hb K7 KF6 hw8 KF7 KF8 hw9
                have hokR : (CmC.mk IDS ps ia ic MS).ok := mk_cm _ _ KID.out KPo.out KMs.out
                have KRb : Kept (¬ (ceF (CmC.mk IDS ps ia ic MS) = 0 ∧ cmU (CmC.mk IDS ps ia ic MS) = (strOfNums xs).data.toList) → DcEnd xs cm0 4) := ⟨fun h => by
                  have h' := dc_bad Kl.out KR1x.out KPl.out KX.out KR3.out KR4.out KM.out
                  unfold pcC at h'
                  rw [KIDe.out, Kiae.out, Kice.out] at h'
                  exact h' h⟩
                generalize CmC.mk IDS ps ia ic MS = R at *
                have Kok := Kept.mk hokR
                have KRps : Kept (OwnP w9 (w.heap.size + 2) pv R.ps) := ⟨KF9.out.own⟩
                have KRg := Kept.mk KF9.out.bl.range
                have KIl : Kept ((Tryz.prog.info? 40).map (·.size) = some (R.l pv).length) := ⟨cm_info hokR⟩
                have KTe := Kept.mk (cmL_eq hokR KA.out)
                have KTb := Kept.mk (cmL_bytes hokR)
                have Kone := Kept.mk KF9.out.own.one
                obtain ⟨pa1, pn1, pc1, hpv, hpn⟩ := KF9.out.own.form
                have K10 : Kept (Calls Tryz.prog 45 #[.agg (R.l pv).toArray] w9 fun e w' => e = .returned (.int .i64 (ceF R)) ∧ Below w9.heap.size w9 w') := ⟨by rw [hpv, hpn]; exact dcommit_any R pa1 pc1 w9 hokR⟩
                have K11 : Kept (ceF R = 0 → ∀ W, Below w9.heap.size w9 W → Calls Tryz.prog 46 #[.agg (R.l pv).toArray] W fun e w' => ∃ v', e = .returned v' ∧ Rd .u8 anyB w' v' (cmL R) ∧ Below W.heap.size W w') := ⟨fun h W hW => dCommit_any R pv W (KGl.out W (KF9.out.be.trans (hW.mono KF9.out.be.size))) Kok.out (KRps.out.later hW (Nat.le_refl _)).rdP h⟩
                clear hokR hpv hpn
                obtain ⟨RL, hRL⟩ : ∃ RL, R.l pv = RL := ⟨_, rfl⟩
                have KRL := Kept.mk hRL
                rw [hRL] at K10 K11 KRg KIl
                clear hRL
                generalize hTF : ceF R = TF at *
                have KTF := Kept.mk hTF
                clear hTF
                go_wp2_with (first | (refine wpList_store_mid rfl 38 _ _ rfl (w.heap.size + 1) 37 G7.toArray rfl rfl KT7.out KI7.out KO7.out ?_; rw [Kw8.out]) | (refine wpList_load_mid rfl 40 _ rfl (w.heap.size + 1) 0 rfl RL _ KRg.out Tryz.underlying40 rfl KIl.out ?_) | (rw [hMS]; rw [Kw9.out]) | (rw [Kw9.out]))
                refine Calls.mono K10.out (fun e w10 hp => ?_)
                obtain ⟨rfl, hb⟩ := hp
                have KF10 := Kept.mk (KF9.out.later hb)
                have K910 := Kept.mk hb
                clear hb K10 KRg KF9 c41 f41
                by_cases hz : TF = 0
                · subst hz
                  have KRg := Kept.mk KF10.out.bl.range
                  rw [KRL.out] at KRg
                  have K12 := Kept.mk (K11.out rfl w10 K910.out)
                  clear K11
                  go_wp2_with (first | (refine BigFrame.wpList_want rfl (fun K hK => wp_load_mid 40 _ rfl (w.heap.size + 1) 0 rfl RL _ KRg.out Tryz.underlying40 rfl KIl.out (hK _ _ ?_)); clear hK K))
                  refine Calls.mono K12.out (fun e w12 hp => ?_)
                  obtain ⟨v12, rfl, hrd, hb⟩ := hp
                  have KF12 := Kept.mk (KF10.out.later hb)
                  have K13 := Kept.mk (Sh.same_any v12 (.slice pa xs.length pc) (cmL R) xs w12 (shRd hrd KTb.out) (shRd (KRdw.out.later KF12.out.be (Nat.le_refl _)) KA.out))
                  clear hrd hb K12 KRg KF10
                  go_wp2_with fail
                  refine Calls.mono K13.out (fun e w13 hp => ?_)
                  obtain ⟨rfl, hw13⟩ := hp
                  have hw13 := hw13.symm
                  subst hw13
                  clear K13
                  by_cases hq : cmL R = xs
                  · have hqd : decide (cmL R = xs) = true := decide_eq_true hq
                    have KE : Kept (DcEnd xs R 0) := ⟨.inr ⟨Kl.out, .inl ⟨Kok.out, KTF.out, KTe.out.1 hq, rfl⟩⟩⟩
                    have KL := Kept.mk (cm_end Kone.out Kok.out KF12.out.bl KF12.out.b0 KF12.out.be)
                    have KOf : Kept (OwnP (w12.setCells w.heap.size 0 (R.l pv)) w.heap.size pv R.ps) := ⟨(KF12.out.own.far fun g hg => by
                      have hlt := (KF12.out.own.lt g hg).1
                      rw [Sh.heap_setCells_far _ _ (by omega)]).mono (by omega)⟩
                    rw [KRL.out] at KL KOf
                    rw [hqd]
                    clear hq hqd KRb KTe
                    go_wp2_with (first | (refine wpList_load_mid rfl 40 _ rfl (w.heap.size + 1) 0 rfl RL _ KL.out.rg Tryz.underlying40 rfl KL.out.il ?_) | (refine wpList_store_mid rfl 40 _ _ rfl w.heap.size 0 RL.toArray rfl rfl KL.out.th KL.out.il2 KL.out.ol ?_))
                    refine bodyPost_ret (v := .tuple #[.agg RL.toArray, .int .i64 0]) (Sh.results_row2 (p := 2) (u := 3) (ty := 40) Tryz.results18 _ _ w.heap.size 40 _ (0, 0) _ rfl KL.out.fin Tryz.underlying40 rfl KL.out.il2) rfl ⟨R, pv, 0, by rw [← KRL.out], KOf.out, KE.out, KL.out.bf⟩
                  · have hqd : decide (cmL R = xs) = false := decide_eq_false hq
                    have KE : Kept (DcEnd xs cm0 4) := ⟨KRb.out fun h => hq (KTe.out.2 h.2)⟩
                    have KL := Kept.mk (cm_end rfl cm0_ok KF12.out.b0 KF12.out.b0 KF12.out.be)
                    rw [hqd]
                    clear hq hqd KRb KTe
                    go_wp2_with (first | (refine wpList_store_mid rfl 40 _ _ rfl w.heap.size 0 (cm0.l pv0).toArray rfl rfl KL.out.th KL.out.il2 KL.out.ol ?_))
                    refine bodyPost_ret (v := .tuple #[.agg (cm0.l pv0).toArray, .int .i64 4]) (Sh.results_row2 (p := 2) (u := 3) (ty := 40) Tryz.results18 _ _ w.heap.size 40 _ (0, 0) _ rfl KL.out.fin Tryz.underlying40 rfl KL.out.il2) rfl ⟨cm0, pv0, 4, rfl, OwnP.nil _ _, KE.out, KL.out.bf⟩
                · have hzb : (TF != 0) = true := by simpa using hz
                  have KE : Kept (DcEnd xs cm0 4) := ⟨KRb.out fun h => hz h.1⟩
                  have KL := Kept.mk (cm_end rfl cm0_ok KF10.out.b0 KF10.out.b0 KF10.out.be)
                  clear hz KRb
                  go_wp2_with (first | (refine wpList_store_mid rfl 40 _ _ rfl w.heap.size 0 (cm0.l pv0).toArray rfl rfl KL.out.th KL.out.il2 KL.out.ol ?_))
                  refine bodyPost_ret (v := .tuple #[.agg (cm0.l pv0).toArray, .int .i64 4]) (Sh.results_row2 (p := 2) (u := 3) (ty := 40) Tryz.results18 _ _ w.heap.size 40 _ (0, 0) _ rfl KL.out.fin Tryz.underlying40 rfl KL.out.il2) rfl ⟨cm0, pv0, 4, rfl, OwnP.nil _ _, KE.out, KL.out.bf⟩


theorem exec_neqC {P : Program} (t : TypeId) (hg : P.eqGuardType P.depth t = false) {a : Act} {o : Oper} {x y : Operand} {t' : TypeId} (ho : o.op = .binOp .neq t x y t') {X Y : Array Value} (hx : a.eval x = .agg X) (hy : a.eval y = .agg Y) {q : Bool} {W : World} (hE : (Op.equalIn 10000 t (.agg X) (.agg Y)).run P W = .ok q W) : (execOp a.eval o).run P W = .ok (.value (.bool (!q))) W := by
  unfold execOp
  rw [ho]
  simp only [hx, hy, Sem.run_bind, run_eqGuard_agg W .neq t x y X Y hg, Result.andThen_ok, run_neq_struct W t X Y, hE, Sem.run_pure]
set_option maxHeartbeats 2000000 in
set_option maxRecDepth 100000 in
theorem sameIds_any (v u : Value) (es : List (List Int)) (w : World) (hr : RdP w v es) (hs : RdP w u es) (hl : es.length ≤ 1048576) :
    Calls Tryz.prog 16 #[v, u] w fun e w' => e = .returned (.bool true) ∧ Below w.heap.size w w' := by
  obtain ⟨a, c, rfl, hlc, hok, hrd⟩ := hr
  obtain ⟨a2, c2, rfl, hlc2, hok2, hrd2⟩ := hs
  have KR := Kept.mk hrd
  have KK := Kept.mk hok
  have KR2 := Kept.mk hrd2
  clear hrd hok hrd2 hok2
  go_enter Tryz.func16, Tryz.ntmps16
  go_wp2
  go_loopw [13] (fun iv wr => ∃ k : Nat, k ≤ es.length ∧ iv = .int .i64 k ∧ Below w.heap.size w wr) (fun iv _ => es.length - (intOf iv).toNat)
  case atStart => exact ⟨0, Nat.zero_le _, rfl, Below.refl _ _⟩
  case round =>
    obtain ⟨k, hk, rfl, hbel⟩ := hrel
    have KBr := Kept.mk hbel
    by_cases hlt : k < es.length
    · have hki : (k : Int) < (es.length : Int) := by omega
      obtain ⟨b, off, rfl, hbl, hrg⟩ := KR.out (by omega)
      obtain ⟨b2, off2, rfl, hbl2, hrg2⟩ := KR2.out (by omega)
      have hbr : b < wr.heap.size := Nat.lt_of_lt_of_le hbl hbel.size
      have hbr2 : b2 < wr.heap.size := Nat.lt_of_lt_of_le hbl2 hbel.size
      have hR1 : Kept (∀ W, CC wr W → W.rangeAt b (off + k * 32) (cellsK .u8 (es[k]'hlt))) := ⟨fun W hW j u hu => by
        rw [hW.cell (p := ⟨b, off + k * 32 + j, none⟩) hbr, hbel.cell (p := ⟨b, off + k * 32 + j, none⟩) hbl]
        exact hrg k hlt j u hu⟩
      have hR2 : Kept (∀ W, CC wr W → W.rangeAt b2 (off2 + k * 32) (cellsK .u8 (es[k]'hlt))) := ⟨fun W hW j u hu => by
        rw [hW.cell (p := ⟨b2, off2 + k * 32 + j, none⟩) hbr2, hbel.cell (p := ⟨b2, off2 + k * 32 + j, none⟩) hbl2]
        exact hrg2 k hlt j u hu⟩
      have hoA := KK.out _ (List.getElem_mem hlt)
      have KEq : Kept (∀ W, (Op.equalIn 10000 31 (.agg (cellsK .u8 (es[k]'hlt)).toArray) (.agg (cellsK .u8 (es[k]'hlt)).toArray)).run Tryz.prog W = .ok true W) := ⟨fun W => eq_idE W 9998 hoA.1⟩
      have KI1 : Kept ((Tryz.prog.info? 31).map (·.size) = some (cellsK .u8 (es[k]'hlt)).length) := ⟨by rw [idP_len hoA]; kernel_rfl⟩
      clear hbel hrg hrg2 hoA
      have e3 : IntKind.i64.wrap ((k : Int) + 1) = (k : Int) + 1 := by rw [IntKind.wrap_i64]; omega
      generalize (cellsK .u8 (es[k]'hlt)) = LA at *
      clear hbr hbl hbr2 hbl2
      go_upto_region 6 with fail
      refine wp_region_quietC (C := CC wr) (by kernel_rfl) (by kernel_rfl) (Below.refl _ _).drew ?_
      go_big_quiet_step ((intro _; rfl))
      go_big_quiet_step ((intro _; rfl))
      refine BigFrame.wpQuiet_want rfl (fun K hK => quiet_run (v := .pointer (some ⟨b, off + k * 32, none⟩)) (fun W hW => by go_simp; all_goals first | rfl | (intro hneg; exfalso; omega)) (hK _ ?_))
      clear hK K
      simp only [Act.put, List.setIfInBounds_toArray, List.set_cons_zero, List.set_cons_succ]
      refine BigFrame.wpQuiet_want rfl (fun K hK => quiet_load_mid 31 _ rfl b (off + k * 32) rfl LA _ hR1.out Tryz.underlying31 rfl KI1.out (hK _ ?_))
      clear hK K
      simp only [Act.put, List.setIfInBounds_toArray, List.set_cons_zero, List.set_cons_succ]
      go_big_quiet_step ((intro _; rfl))
      go_big_quiet_step ((intro _; rfl))
      refine BigFrame.wpQuiet_want rfl (fun K hK => quiet_run (v := .pointer (some ⟨b2, off2 + k * 32, none⟩)) (fun W hW => by go_simp; all_goals first | rfl | (intro hneg; exfalso; omega)) (hK _ ?_))
      clear hK K
      simp only [Act.put, List.setIfInBounds_toArray, List.set_cons_zero, List.set_cons_succ]
      refine BigFrame.wpQuiet_want rfl (fun K hK => quiet_load_mid 31 _ rfl b2 (off2 + k * 32) rfl LA _ hR2.out Tryz.underlying31 rfl KI1.out (hK _ ?_))
      clear hK K
      simp only [Act.put, List.setIfInBounds_toArray, List.set_cons_zero, List.set_cons_succ]
      refine BigFrame.wpQuiet_want rfl (fun K hK => quiet_run (v := .bool false) (fun W hW => exec_neqC 31 Tryz.eqGuardType31 rfl rfl rfl (KEq.out W)) (hK _ ?_))
      clear hK K
      simp only [Act.put, List.setIfInBounds_toArray, List.set_cons_zero, List.set_cons_succ]
      refine wpQuiet_nil ?_
      intro w3 hw3
      have KB3 := Kept.mk (KBr.out.trans (Below.mono hw3 KBr.out.size))
      clear hw3
      go_wp2
      go_roundw
      case rel => exact ⟨k + 1, by omega, by go_num, KB3.out⟩
      case measure => simp [intOf]; omega
    · have hki : ¬ (k : Int) < (es.length : Int) := by omega
      clear hbel
      go_wp2
      go_ret
      exact ⟨rfl, KBr.out⟩
set_option maxHeartbeats 2000000 in
set_option maxRecDepth 100000 in
theorem sameCommit_any (c : CmC) (pv qv : Value) (w : World) (hok : c.ok) (hp : RdP w pv c.ps) (hq : RdP w qv c.ps) (hl : c.ps.length ≤ 1048576) :
    Calls Tryz.prog 21 #[.agg (c.l pv).toArray, .agg (c.l qv).toArray] w fun e w' => e = .returned (.bool true) ∧ Below w.heap.size w w' := by
  obtain ⟨w1, hw1, hB1, hL1⟩ := CmC.box w c pv
  obtain ⟨w2, hw2, hB2, hL2⟩ := CmC.box w1 c qv
  have hs1 : w1.heap.size = w.heap.size + 1 := by rw [← hw1]; simp
  rw [hs1] at hL2
  have hL12 := hL1.far hB2 hL1.lt
  have KB2 := Kept.mk (hB1.trans (hB2.mono hB1.size))
  have KS := Kept.mk (sameIds_any pv qv c.ps w2 (hp.later KB2.out (Nat.le_refl _)) (hq.later KB2.out (Nat.le_refl _)) hl)
  have KBa : Kept (∀ W, Below w2.heap.size w2 W → CmB W w.heap.size c pv) := ⟨fun W hW => hL12.far hW hL12.lt⟩
  have KBb : Kept (∀ W, Below w2.heap.size w2 W → CmB W (w.heap.size + 1) c qv) := ⟨fun W hW => hL2.far hW hL2.lt⟩
  have Kok := Kept.mk hok
  have Ks1 := Kept.mk hs1
  obtain ⟨pa, pc, rfl, -, -, -⟩ := hp
  obtain ⟨qa, qc, rfl, -, -, -⟩ := hq
  have KR1 := Kept.mk hL12.rangeTg
  have KR2 := Kept.mk hL2.rangeTg
  have KIT := Kept.mk (id_infoL hok.1)
  have KEi : Kept (∀ W, (Op.equalIn 10000 31 (.agg (cellsK .u8 c.tg).toArray) (.agg (cellsK .u8 c.tg).toArray)).run Tryz.prog W = .ok true W) := ⟨fun W => eq_idE W 9998 Kok.out.1.1⟩
  have KEa : Kept (∀ W, (Op.equalIn 10000 38 (.agg (igL c.ia).toArray) (.agg (igL c.ia).toArray)).run Tryz.prog W = .ok true W) := ⟨fun W => eq_idt W 9998 c.ia⟩
  have KEc : Kept (∀ W, (Op.equalIn 10000 38 (.agg (igL c.ic).toArray) (.agg (igL c.ic).toArray)).run Tryz.prog W = .ok true W) := ⟨fun W => eq_idt W 9998 c.ic⟩
  have KIa := Kept.mk (igL_info c.ia)
  have KIc := Kept.mk (igL_info c.ic)
  have c32 := hL12.cell hok 0 _ rfl
  have d32 := hL2.cell hok 0 _ rfl
  obtain ⟨CA, hCA⟩ : ∃ CA, c.l (.slice pa c.ps.length pc) = CA := ⟨_, rfl⟩
  obtain ⟨CB, hCB⟩ : ∃ CB, c.l (.slice qa c.ps.length qc) = CB := ⟨_, rfl⟩
  rw [hCA] at hw1
  rw [hCB] at hw2
  rw [hCA, hCB]
  obtain ⟨TG, hTG⟩ : ∃ TG, cellsK .u8 c.tg = TG := ⟨_, rfl⟩
  rw [hTG] at KR1 KR2 KIT KEi
  clear hCA hCB hTG hB1 hB2 hL1 hL2 hL12 hs1 hok hl
  go_enter Tryz.func21, Tryz.ntmps21
  go_upto_region 1 with fail
  try rw [hw1]
  try rw [hw2]
  try rw [Ks1.out]
  clear hw1 hw2
  go_wp2_with (first | (refine wpList_load_mid rfl 31 _ rfl w.heap.size 0 rfl TG _ KR1.out Tryz.underlying31 rfl KIT.out ?_) | (refine wpList_load_mid rfl 31 _ rfl (w.heap.size + 1) 0 rfl TG _ KR2.out Tryz.underlying31 rfl KIT.out ?_) | (refine BigFrame.wpList_want rfl (fun K hK => wp_exec (exec_eqlE 31 Tryz.eqGuardType31 rfl rfl rfl (KEi.out _)) (hK _ _ ?_)); clear hK K))
  refine Calls.mono KS.out (fun e w3 hp => ?_)
  obtain ⟨rfl, hb⟩ := hp
  have KB3 := Kept.mk (KB2.out.trans (hb.mono KB2.out.size))
  have K1a := Kept.mk ((KBa.out w3 hb).rangeIa Kok.out)
  have K2a := Kept.mk ((KBb.out w3 hb).rangeIa Kok.out)
  have K1c := Kept.mk ((KBa.out w3 hb).rangeIc Kok.out)
  have K2c := Kept.mk ((KBb.out w3 hb).rangeIc Kok.out)
  have c41 := (KBa.out w3 hb).cell Kok.out 9 _ rfl
  have d41 := (KBb.out w3 hb).cell Kok.out 9 _ rfl
  obtain ⟨IA, hIA⟩ : ∃ IA, igL c.ia = IA := ⟨_, rfl⟩
  obtain ⟨IC, hIC⟩ : ∃ IC, igL c.ic = IC := ⟨_, rfl⟩
  rw [hIA] at K1a K2a KIa KEa
  rw [hIC] at K1c K2c KIc KEc
  clear hb KS c32 d32 hIA hIC KR1 KR2
  generalize c.ms = ms at *
  have hms : (ms.toList == ms.toList) = true := by simp
  go_wp2_with (first | (refine BigFrame.wpList_want rfl (fun K hK => wp_load_mid 38 _ rfl w.heap.size 33 rfl IA _ K1a.out Tryz.underlying38 rfl KIa.out (hK _ _ ?_)); clear hK K) | (refine BigFrame.wpList_want rfl (fun K hK => wp_load_mid 38 _ rfl (w.heap.size + 1) 33 rfl IA _ K2a.out Tryz.underlying38 rfl KIa.out (hK _ _ ?_)); clear hK K) | (refine BigFrame.wpList_want rfl (fun K hK => wp_load_mid 38 _ rfl w.heap.size 37 rfl IC _ K1c.out Tryz.underlying38 rfl KIc.out (hK _ _ ?_)); clear hK K) | (refine BigFrame.wpList_want rfl (fun K hK => wp_load_mid 38 _ rfl (w.heap.size + 1) 37 rfl IC _ K2c.out Tryz.underlying38 rfl KIc.out (hK _ _ ?_)); clear hK K) | (refine BigFrame.wpList_want rfl (fun K hK => wp_exec (exec_eqlE 38 Tryz.eqGuardType38 rfl rfl rfl (KEa.out _)) (hK _ _ ?_)); clear hK K) | (refine BigFrame.wpList_want rfl (fun K hK => wp_exec (exec_eqlE 38 Tryz.eqGuardType38 rfl rfl rfl (KEc.out _)) (hK _ _ ?_)); clear hK K))
  go_ret
  exact ⟨rfl, KB3.out⟩


structure CmS (w1 wa w2 : World) (R : CmC) (pv : Value) : Prop where
  al : w1.alloc (.cells (cm0.l pv0).toArray 40) = wa
  st : wa.setCells w1.heap.size 0 (R.l pv) = w2
  th : wa.there w1.heap.size 0 (R.l pv).toArray.size
  bl : CmB w2 w1.heap.size R pv
  be : Below w1.heap.size w1 w2
theorem cm_store (w1 : World) {R : CmC} (pv : Value) (hok : R.ok) : ∃ wa w2, CmS w1 wa w2 R pv := by
  obtain ⟨wa, hwa, hBa, hLa⟩ := CmC.box w1 cm0 pv0
  exact ⟨wa, _, hwa, rfl, hLa.thereAt cm0_ok 0 _ (by rw [List.size_toArray, CmC.len hok]; omega), hLa.over cm0_ok hok, Sh.below_cells (Nat.le_refl _) _ _ _ _ hBa⟩
end Go.Proofs.YtkbalngddlhlpaaGreatDoor
