/-
  Commits that are written are read again. (Pure.)
-/
import Derived.Test.YtkbalngddlhlpaaGreatDoorC4
import Derived.Test.YtkbalngddlhlpaaGreatDoorL10
namespace Go.Proofs.YtkbalngddlhlpaaGreatDoor
open Go.RowKit

def pasU : List (List Int) → List UInt8 → List UInt8
  | [], r => r
  | p :: ps, r => wP ++ 32 :: (hexU p ++ 10 :: pasU ps r)
def cmR (c : CmC) : List UInt8 := wA ++ 32 :: ((putB c.ia).data.toList ++ 10 :: (wCo ++ 32 :: ((putB c.ic).data.toList ++ 10 :: (10 :: c.ms.data.toList))))
def cmU (c : CmC) : List UInt8 := wTr ++ 32 :: (hexU c.tg ++ 10 :: pasU c.ps (cmR c))
theorem pasL_U (r : List UInt8) : ∀ ps : List (List Int), (strOfNums (pasL ps)).data.toList ++ r = pasU ps r
  | [] => rfl
  | p :: ps => by
    have ih := pasL_U r ps
    unfold pasL at ih ⊢
    rw [List.flatMap_cons, nums_cat, List.append_assoc, ih]
    show _ = wP ++ 32 :: (hexU p ++ 10 :: pasU ps r)
    unfold paL hexU
    simp only [nums_cat, List.append_assoc]
    rfl
theorem cmL_U (c : CmC) : (strOfNums (cmL c)).data.toList = cmU c := by
  unfold cmL cmU
  simp only [nums_cat, nums_strL, List.append_assoc]
  rw [← pasL_U]
  unfold cmR hexU
  rfl
theorem pre_yes (r : List UInt8) : Lib.hasPrefix (wP ++ 32 :: r) (wP ++ [32]) = true := by
  unfold Lib.hasPrefix
  rw [List.isPrefixOf_iff_prefix]
  exact ⟨r, by simp⟩
theorem par_hex {p : List Int} (h : IdOk p) : Sh.parF ⟨(hexU p).toArray⟩ = p := by
  unfold hexU
  rw [back_ba]
  exact Sh.parF_hex h.1 (fun x hx => h.2 x hx)
theorem pas_at {p : List Int} (h : IdOk p) (r : List UInt8) : clF (wP ++ 32 :: (hexU p ++ 10 :: r)) wP = (hexU p, r) := cl_ln ⟨rfl, hexU_no _ h.2⟩
theorem prs_make (r : List UInt8) : ∀ {ps : List (List Int)}, (∀ p ∈ ps, IdOk p) → PrS (pasU ps r) ps r
  | [], _ => rfl
  | p :: ps, h => by
    have hp := h p List.mem_cons_self
    refine ⟨pre_yes _, ?_, ?_⟩
    · show p = Sh.parF ⟨(clF (wP ++ 32 :: (hexU p ++ 10 :: pasU ps r)) wP).1.toArray⟩
      rw [pas_at hp]
      exact (par_hex hp).symm
    · show PrS (clF (wP ++ 32 :: (hexU p ++ 10 :: pasU ps r)) wP).2 ps r
      rw [pas_at hp]
      exact prs_make r (fun q hq => h q (List.mem_cons_of_mem _ hq))
theorem prs_one {r : List UInt8} (hr : Lib.hasPrefix r (wP ++ [32]) = false) : ∀ {ps : List (List Int)}, (∀ p ∈ ps, IdOk p) → ∀ {qs : List (List Int)} {t1 : List UInt8}, PrS (pasU ps r) qs t1 → Lib.hasPrefix t1 (wP ++ [32]) = false → qs = ps ∧ t1 = r
  | [], _, [], t1, h, _ => ⟨rfl, h⟩
  | [], _, q :: qs, t1, h, _ => by
    have h1 : Lib.hasPrefix r (wP ++ [32]) = true := h.1
    rw [hr] at h1
    cases h1
  | p :: ps, _, [], t1, h, ht => by
    have h : t1 = pasU (p :: ps) r := h
    have := pre_yes (hexU p ++ 10 :: pasU ps r)
    rw [h] at ht
    unfold pasU at ht
    rw [this] at ht
    cases ht
  | p :: ps, hok, q :: qs, t1, h, ht => by
    have hp := hok p List.mem_cons_self
    obtain ⟨-, h2, h3⟩ := h
    have h2 : q = Sh.parF ⟨(clF (wP ++ 32 :: (hexU p ++ 10 :: pasU ps r)) wP).1.toArray⟩ := h2
    have h3 : PrS (clF (wP ++ 32 :: (hexU p ++ 10 :: pasU ps r)) wP).2 qs t1 := h3
    rw [pas_at hp] at h2 h3
    have ih := prs_one hr (fun q hq => hok q (List.mem_cons_of_mem _ hq)) h3 ht
    refine ⟨?_, ih.2⟩
    rw [h2, par_hex hp, ih.1]
theorem cm_lines {c : CmC} (hok : c.ok) (h : ceF c = 0) : LnAt (cmU c) wTr (hexU c.tg) (pasU c.ps (cmR c))
    ∧ LnAt (cmR c) wA (putB c.ia).data.toList (wCo ++ 32 :: ((putB c.ic).data.toList ++ 10 :: (10 :: c.ms.data.toList)))
    ∧ LnAt (wCo ++ 32 :: ((putB c.ic).data.toList ++ 10 :: (10 :: c.ms.data.toList))) wCo (putB c.ic).data.toList (10 :: c.ms.data.toList) := by
  obtain ⟨h1, h2, h3, h4, h5⟩ := ceF_ok h
  exact ⟨⟨rfl, hexU_no _ hok.1.2⟩, ⟨rfl, put_no h3⟩, ⟨rfl, put_no h4⟩⟩
theorem cmR_pre (c : CmC) : Lib.hasPrefix (cmR c) (wP ++ [32]) = false := rfl
theorem rm_nl (m : List UInt8) : rmF (10 :: m) = m := rfl
theorem rc_make {c : CmC} (hok : c.ok) (h : ceF c = 0) : RcT (cmU c) c := by
  obtain ⟨h1, h2, h3, h4, h5⟩ := ceF_ok h
  obtain ⟨g1, g2, g3⟩ := cm_lines hok h
  refine ⟨cmR c, ?_, cmR_pre c, ?_, ?_, ?_, ?_⟩
  · rw [cl_ln g1]
    exact prs_make _ hok.2.1
  · rw [cl_ln g1]
    exact (par_hex hok.1).symm
  · rw [cl_ln g2]
    simp only
    rw [back_ba, prs_put h3]
  · rw [cl_ln g2]
    simp only
    rw [cl_ln g3]
    simp only
    rw [back_ba, prs_put h4]
  · rw [cl_ln g2]
    simp only
    rw [cl_ln g3]
    simp only
    rw [rm_nl, back_ba]
theorem rc_back {c d : CmC} (hok : c.ok) (h : ceF c = 0) (hr : RcT (cmU c) d) : d = c := by
  obtain ⟨h1, h2, h3, h4, h5⟩ := ceF_ok h
  obtain ⟨g1, g2, g3⟩ := cm_lines hok h
  obtain ⟨t1, a1, a2, a3, a4, a5, a6⟩ := hr
  rw [cl_ln g1] at a1 a3
  obtain ⟨e1, rfl⟩ := prs_one (cmR_pre c) hok.2.1 a1 a2
  rw [cl_ln g2] at a4 a5 a6
  simp only at a3 a4 a5 a6
  rw [cl_ln g3] at a5 a6
  simp only at a5 a6
  rw [par_hex hok.1] at a3
  rw [back_ba, prs_put h3] at a4
  rw [back_ba, prs_put h4] at a5
  rw [rm_nl, back_ba] at a6
  obtain ⟨tg, ps, ia, ic, ms⟩ := d
  simp only at e1 a3 a4 a5 a6
  rw [e1, a3, a4, a5, a6]
theorem cmU_inj {c d : CmC} (hc : c.ok) (h : ceF c = 0) (hd : d.ok) (g : ceF d = 0) (he : cmU c = cmU d) : c = d := by
  have := rc_make hc h
  rw [he] at this
  exact rc_back hd g this
def DcEnd (xs : List Int) (R : CmC) (E : Int) : Prop :=
  (1048576 < xs.length ∧ R = cm0 ∧ E = 2) ∨ (xs.length ≤ 1048576 ∧ ((R.ok ∧ ceF R = 0 ∧ cmU R = (strOfNums xs).data.toList ∧ E = 0) ∨ ((∀ c : CmC, c.ok → ceF c = 0 → cmU c ≠ (strOfNums xs).data.toList) ∧ R = cm0 ∧ E = 4)))
theorem dc_one {xs : List Int} {R R' : CmC} {E E' : Int} (h : DcEnd xs R E) (g : DcEnd xs R' E') : R = R' ∧ E = E' := by
  rcases h with ⟨h1, h2, h3⟩ | ⟨h1, h2⟩
  · rcases g with ⟨g1, g2, g3⟩ | ⟨g1, g2⟩
    · exact ⟨h2.trans g2.symm, h3.trans g3.symm⟩
    · omega
  · rcases g with ⟨g1, g2, g3⟩ | ⟨g1, g2⟩
    · omega
    · rcases h2 with ⟨a1, a2, a3, a4⟩ | ⟨a1, a2, a3⟩
      · rcases g2 with ⟨b1, b2, b3, b4⟩ | ⟨b1, b2, b3⟩
        · exact ⟨cmU_inj a1 a2 b1 b2 (a3.trans b3.symm), a4.trans b4.symm⟩
        · exact absurd a3 (b1 R a1 a2)
      · rcases g2 with ⟨b1, b2, b3, b4⟩ | ⟨b1, b2, b3⟩
        · exact absurd b3 (a1 R' b1 b2)
        · exact ⟨a2.trans b2.symm, a3.trans b3.symm⟩
theorem dc_ok {xs : List Int} {R : CmC} {E : Int} (h : DcEnd xs R E) : R.ok ∧ R.ps.length ≤ 16 := by
  rcases h with ⟨-, rfl, -⟩ | ⟨-, ⟨h, h0, -⟩ | ⟨-, rfl, -⟩⟩
  · exact ⟨cm0_ok, by simp [cm0]⟩
  · exact ⟨h, (ceF_ok h0).1⟩
  · exact ⟨cm0_ok, by simp [cm0]⟩
theorem dc_yes {xs : List Int} (hl : xs.length ≤ 1048576) {R : CmC} (hok : R.ok) (h0 : ceF R = 0) (h : strOfNums (cmL R) = strOfNums xs) : DcEnd xs R 0 :=
  .inr ⟨hl, .inl ⟨hok, h0, by rw [← cmL_U, h], rfl⟩⟩
theorem dc_no {xs : List Int} (hl : xs.length ≤ 1048576) {R : CmC} (hR : RcT (strOfNums xs).data.toList R) (h : ¬ (ceF R = 0 ∧ strOfNums (cmL R) = strOfNums xs)) : DcEnd xs cm0 4 := by
  refine .inr ⟨hl, .inr ⟨fun c hc h0 he => h ?_, rfl, rfl⟩⟩
  rw [← he] at hR
  obtain rfl := rc_back hc h0 hR
  refine ⟨h0, ?_⟩
  rw [← cmL_U] at he
  apply ByteArray.ext
  apply Array.ext'
  exact he


structure CmE (w W : World) (g : Nat) (RL : List Value) : Prop where
  rg : W.rangeAt g 0 RL
  il : (Tryz.prog.info? 40).map (·.size) = some RL.length
  il2 : (Tryz.prog.info? 40).map (·.size) = some RL.toArray.size
  th : W.there w.heap.size 0 RL.toArray.size
  ol : RL.toArray.all (·.oneCell') = true
  fin : (W.setCells w.heap.size 0 RL).heap[w.heap.size]? = some (.cells RL.toArray 40)
  bf : Below w.heap.size w (W.setCells w.heap.size 0 RL)
theorem cm_end {w W : World} {g : Nat} {R : CmC} {pv : Value} (hp : pv.oneCell' = true) (hR : R.ok) (hg : CmB W g R pv) (h0 : CmB W w.heap.size cm0 pv0) (hB : Below w.heap.size w W) : CmE w W g (R.l pv) := by
  have hil : (Tryz.prog.info? 40).map (·.size) = some (R.l pv).length := by rw [CmC.len hR]; kernel_rfl
  refine ⟨hg.range, hil, by rw [List.size_toArray]; exact hil, h0.thereAt cm0_ok 0 _ (by rw [List.size_toArray, CmC.len hR]; omega), CmC.all hp, h0.over cm0_ok hR, Sh.below_cells (Nat.le_refl _) _ _ _ _ hB⟩
set_option maxHeartbeats 2000000 in
set_option maxRecDepth 100000 in
theorem parseC_any (v : Value) (xs : List Int) (w : World) (hgl : Gl w) (hr : Rd .u8 anyB w v xs) :
    Calls Tryz.prog 29 #[v, .func (.func 30) #[] #[], .func (.func 10) #[] #[]] w fun e w' => ∃ R pv E, e = .returned (.tuple #[.agg (R.l pv).toArray, .int .i64 E]) ∧ OwnP w' w.heap.size pv R.ps ∧ DcEnd xs R E ∧ Below w.heap.size w w' := by
  obtain ⟨w0, hw0, hB0, hE0, hE1, hsz0⟩ := two_cms w
  have KRd := Kept.mk (hr.later hB0 (Nat.le_refl _))
  obtain ⟨a, c, rfl, h1, h2, h3, h4⟩ := hr
  have KGl := Kept.mk (hgl.later hB0)
  have KB0 := Kept.mk hB0
  clear hgl h1 h2 h3 h4
  by_cases hl : 1048576 < xs.length
  · have hli : (1048576 : Int) < (xs.length : Int) := by omega
    have KE : Kept (DcEnd xs cm0 2) := ⟨.inl ⟨hl, rfl, rfl⟩⟩
    have KL := Kept.mk (cm_end rfl cm0_ok hE1 hE0 hB0)
    clear hl hB0 hE0 hE1 hsz0 KB0 KRd KGl
    go_enter Tryz.func29, Tryz.ntmps29
    go_upto_region 2 with fail
    generalize hOb : Obj.cells (_ : Array Value) 40 = Ob
    have hOb2 : Ob = Obj.cells (cm0.l pv0).toArray 40 := by subst hOb; rfl
    subst hOb2
    clear hOb
    rw [hw0]
    clear hw0
    obtain ⟨RL, hRL⟩ : ∃ RL, (cm0.l pv0) = RL := ⟨_, rfl⟩
    have KRL := Kept.mk hRL
    rw [hRL] at KL
    clear hRL
    go_wp2_with (first | (refine wpList_load_mid rfl 40 _ rfl (w.heap.size + 1) 0 rfl RL _ KL.out.rg Tryz.underlying40 rfl KL.out.il ?_) | (refine wpList_store_mid rfl 40 _ _ rfl w.heap.size 0 RL.toArray rfl rfl KL.out.th KL.out.il2 KL.out.ol ?_))
    refine bodyPost_ret (v := .tuple #[.agg RL.toArray, .int .i64 2]) (Sh.results_row2 (p := 6) (u := 7) (ty := 40) Tryz.results29 _ _ w.heap.size 40 _ (0, 0) _ rfl KL.out.fin Tryz.underlying40 rfl KL.out.il2) rfl ⟨cm0, pv0, 2, by rw [KRL.out], OwnP.nil _ _, KE.out, KL.out.bf⟩
  · have hli : ¬ (1048576 : Int) < (xs.length : Int) := by omega
    have Kl : Kept (xs.length ≤ 1048576) := ⟨by omega⟩
    have hcv := KRd.out.str Tryz.underlying27 Tryz.underlying5 9 Tryz.underlying9
    obtain ⟨S, hS⟩ : ∃ S, strOfNums xs = S := ⟨_, rfl⟩
    have KS := Kept.mk hS
    rw [hS] at hcv
    have hSl : S.data.toList.length ≤ 1048576 := by rw [← Lib.size_eq, ← hS, strOfNums_size]; exact Kl.out
    have K1 := Kept.mk (readCommit_any S.data.toList w0 KGl.out hSl)
    rw [back_ba] at K1
    have Ks0 : Kept (w.heap.size + 2 ≤ w0.heap.size) := ⟨by omega⟩
    have KE0 := Kept.mk hE0
    have KE1 := Kept.mk hE1
    clear hl hS hSl hB0 hE0 hE1 hsz0 KRd
    go_enter Tryz.func29, Tryz.ntmps29
    go_upto_region 2 with fail
    generalize hOb : Obj.cells (_ : Array Value) 40 = Ob
    have hOb2 : Ob = Obj.cells (cm0.l pv0).toArray 40 := by subst hOb; rfl
    subst hOb2
    clear hOb
    rw [hw0]
    clear hw0
    go_wp2_with fail
    refine Calls.mono K1.out (fun e w1 hp => ?_)
    obtain ⟨R, pv, rfl, how, hRT, hok, hb1⟩ := hp
    have Kok := Kept.mk hok
    have KRT : Kept (RcT (strOfNums xs).data.toList R) := ⟨by rw [KS.out]; exact hRT⟩
    have Kone := Kept.mk how.one
    have KB1 := Kept.mk (KB0.out.trans (hb1.mono KB0.out.size))
    have Ks1 : Kept (w.heap.size + 2 ≤ w1.heap.size) := ⟨Nat.le_trans Ks0.out hb1.size⟩
    have hE0 := KE0.out.far hb1 (by have := Ks0.out; omega)
    have hE1 := KE1.out.far hb1 (by have := Ks0.out; omega)
    obtain ⟨wa, hwa, hBa, hLa⟩ := CmC.box w1 cm0 pv0
    have hsza : wa.heap.size = w1.heap.size + 1 := by rw [← hwa]; simp
    obtain ⟨w2, hw2⟩ : ∃ w2, wa.setCells w1.heap.size 0 (R.l pv) = w2 := ⟨_, rfl⟩
    have hL2 : CmB w2 w1.heap.size R pv := by rw [← hw2]; exact hLa.over cm0_ok Kok.out
    have hB2 : Below w1.heap.size w1 w2 := by rw [← hw2]; exact Sh.below_cells (Nat.le_refl _) _ _ _ _ hBa
    have hE02 := hE0.far hB2 (by have := Ks1.out; omega)
    have hE12 := hE1.far hB2 (by have := Ks1.out; omega)
    have KB2 := Kept.mk (KB1.out.trans (hB2.mono KB1.out.size))
    have Ks2 : Kept (w1.heap.size + 1 ≤ w2.heap.size) := ⟨by rw [← hw2, Sh.size_setCells]; omega⟩
    have KOw := Kept.mk (how.later hB2 (Nat.le_refl _))
    have K2 := Kept.mk (putCommit_any R pv w2 (KGl.out.later (hb1.trans (hB2.mono hb1.size))) Kok.out KOw.out.rdP)
    clear how hRT hok
    have KP : Kept (pcmL R = if ceF R = 0 then cmL R else []) := ⟨rfl⟩
    have KTh : Kept (wa.there w1.heap.size 0 (R.l pv).toArray.size) := ⟨hLa.thereAt cm0_ok 0 _ (by rw [List.size_toArray, CmC.len Kok.out]; omega)⟩
    have KIl : Kept ((Tryz.prog.info? 40).map (·.size) = some (R.l pv).length) := ⟨by rw [CmC.len Kok.out]; kernel_rfl⟩
    have KIl2 : Kept ((Tryz.prog.info? 40).map (·.size) = some (R.l pv).toArray.size) := ⟨by rw [List.size_toArray]; exact KIl.out⟩
    have KOl : Kept (((R.l pv)).toArray.all (·.oneCell') = true) := ⟨CmC.all Kone.out⟩
    have KRg := Kept.mk hL2.range
    have KE0 := Kept.mk hE02
    have KE1 := Kept.mk hE12
    have KL := Kept.mk hL2
    clear hb1 hE0 hE1 hLa hsza hL2 hB2 hE02 hE12 hBa K1
    obtain ⟨RL, hRL⟩ : ∃ RL, (R.l pv) = RL := ⟨_, rfl⟩
    have KRL := Kept.mk hRL
    rw [hRL] at K2 KTh KIl KIl2 KOl KRg hw2
    rw [hRL]
    clear hRL
    have Kwa := Kept.mk hwa
    have Kw2 := Kept.mk hw2
    clear hwa hw2
    go_wp2_with (first | (generalize hOb : Obj.cells (_ : Array Value) 40 = Ob; obtain rfl : Ob = Obj.cells (cm0.l pv0).toArray 40 := (by subst hOb; rfl); clear hOb; rw [Kwa.out]; refine wpList_store_mid rfl 40 _ _ rfl w1.heap.size 0 RL.toArray rfl rfl KTh.out KIl2.out KOl.out ?_; rw [Kw2.out]) | (refine wpList_load_mid rfl 40 _ rfl w1.heap.size 0 rfl RL _ KRg.out Tryz.underlying40 rfl KIl.out ?_))
    refine Calls.mono K2.out (fun e w3 hp => ?_)
    obtain ⟨av, rfl, hav, hb3⟩ := hp
    have KB3 := Kept.mk (KB2.out.trans (hb3.mono KB2.out.size))
    have KE0 := Kept.mk (KE0.out.far hb3 (by have := Ks2.out; have := Ks1.out; omega))
    have KE1 := Kept.mk (KE1.out.far hb3 (by have := Ks2.out; have := Ks1.out; omega))
    have KL := Kept.mk (KL.out.far hb3 (by have := Ks2.out; omega))
    have KOw := Kept.mk (KOw.out.later hb3 (Nat.le_refl _))
    have hcv2 := (hav.rd).str Tryz.underlying27 Tryz.underlying5 9 Tryz.underlying9
    obtain ⟨S2, hS2⟩ : ∃ S2, strOfNums (pcmL R) = S2 := ⟨_, rfl⟩
    have KS2 := Kept.mk hS2
    rw [hS2] at hcv2
    clear K2 hb3 hav hS2 hcv
    generalize hE : ceF R = E at *
    have KEE := Kept.mk hE
    clear hE
    by_cases h0 : E = 0
    · subst h0
      by_cases hs : S2 = S
      · have KE : Kept (DcEnd xs R 0) := ⟨dc_yes Kl.out Kok.out KEE.out (by rw [KS.out, ← hs, ← KS2.out, KP.out, if_pos rfl])⟩
        have KL2 := Kept.mk (cm_end Kone.out Kok.out KL.out KE0.out KB3.out)
        subst hs
        have KOf : Kept (OwnP (w3.setCells w.heap.size 0 (R.l pv)) w.heap.size pv R.ps) := ⟨(KOw.out.far fun g hg => by
          have hlt := (KOw.out.lt g hg).1
          have := Ks0.out
          rw [Sh.heap_setCells_far _ _ (by omega)]).mono (by have := Ks0.out; omega)⟩
        obtain ⟨RL2, hRL2⟩ : ∃ RL, (R.l pv) = RL := ⟨_, rfl⟩
        have KRL2 := Kept.mk hRL2
        rw [hRL2] at KL2 KOf
        clear hRL2
        go_wp2_with (first | (refine wpList_load_mid rfl 40 _ rfl w1.heap.size 0 rfl RL2 _ KL2.out.rg Tryz.underlying40 rfl KL2.out.il ?_) | (refine wpList_store_mid rfl 40 _ _ rfl w.heap.size 0 RL2.toArray rfl rfl KL2.out.th KL2.out.il2 KL2.out.ol ?_))
        refine bodyPost_ret (v := .tuple #[.agg RL2.toArray, .int .i64 0]) (Sh.results_row2 (p := 6) (u := 7) (ty := 40) Tryz.results29 _ _ w.heap.size 40 _ (0, 0) _ rfl KL2.out.fin Tryz.underlying40 rfl KL2.out.il2) rfl ⟨R, pv, 0, by rw [← KRL2.out], KOf.out, KE.out, KL2.out.bf⟩
      · have hbl : (S2.toList == S.toList) = false := beq_eq_false_iff_ne.2 fun h => hs (by rcases S2 with ⟨⟨a⟩⟩; rcases S with ⟨⟨b⟩⟩; simp only [Lib.toList_data] at h; rw [h])
        have KE : Kept (DcEnd xs cm0 4) := ⟨dc_no Kl.out KRT.out fun h => hs (by rw [← KS2.out, KP.out, if_pos rfl, h.2, KS.out])⟩
        have KL2 := Kept.mk (cm_end rfl cm0_ok KE1.out KE0.out KB3.out)
        clear hs
        obtain ⟨RL2, hRL2⟩ : ∃ RL, (cm0.l pv0) = RL := ⟨_, rfl⟩
        have KRL2 := Kept.mk hRL2
        rw [hRL2] at KL2
        clear hRL2
        go_wp2_with (first | (refine wpList_load_mid rfl 40 _ rfl (w.heap.size + 1) 0 rfl RL2 _ KL2.out.rg Tryz.underlying40 rfl KL2.out.il ?_) | (refine wpList_store_mid rfl 40 _ _ rfl w.heap.size 0 RL2.toArray rfl rfl KL2.out.th KL2.out.il2 KL2.out.ol ?_))
        refine bodyPost_ret (v := .tuple #[.agg RL2.toArray, .int .i64 4]) (Sh.results_row2 (p := 6) (u := 7) (ty := 40) Tryz.results29 _ _ w.heap.size 40 _ (0, 0) _ rfl KL2.out.fin Tryz.underlying40 rfl KL2.out.il2) rfl ⟨cm0, pv0, 4, by rw [← KRL2.out], OwnP.nil _ _, KE.out, KL2.out.bf⟩
    · have KE : Kept (DcEnd xs cm0 4) := ⟨dc_no Kl.out KRT.out fun h => h0 (by rw [← KEE.out]; exact h.1)⟩
      have KL2 := Kept.mk (cm_end rfl cm0_ok KE1.out KE0.out KB3.out)
      obtain ⟨RL2, hRL2⟩ : ∃ RL, (cm0.l pv0) = RL := ⟨_, rfl⟩
      have KRL2 := Kept.mk hRL2
      rw [hRL2] at KL2
      clear hRL2
      go_wp2_with (first | (refine wpList_load_mid rfl 40 _ rfl (w.heap.size + 1) 0 rfl RL2 _ KL2.out.rg Tryz.underlying40 rfl KL2.out.il ?_) | (refine wpList_store_mid rfl 40 _ _ rfl w.heap.size 0 RL2.toArray rfl rfl KL2.out.th KL2.out.il2 KL2.out.ol ?_))
      refine bodyPost_ret (v := .tuple #[.agg RL2.toArray, .int .i64 4]) (Sh.results_row2 (p := 6) (u := 7) (ty := 40) Tryz.results29 _ _ w.heap.size 40 _ (0, 0) _ rfl KL2.out.fin Tryz.underlying40 rfl KL2.out.il2) rfl ⟨cm0, pv0, 4, by rw [← KRL2.out], OwnP.nil _ _, KE.out, KL2.out.bf⟩
set_option maxHeartbeats 400000 in
set_option maxRecDepth 100000 in
theorem parseCommit_any (v : Value) (xs : List Int) (w : World) (hgl : Gl w) (hr : Rd .u8 anyB w v xs) :
    Calls Tryz.prog 9 #[v] w fun e w' => ∃ R pv E, e = .returned (.tuple #[.agg (R.l pv).toArray, .int .i64 E]) ∧ OwnP w' w.heap.size pv R.ps ∧ DcEnd xs R E ∧ Below w.heap.size w w' := by
  have hB0 : Below w.heap.size w (w.alloc (.cells (cm0.l pv0).toArray 40)) := (Below.refl _ _).alloc (Nat.le_refl _) _
  have hE0 : CmB (w.alloc (.cells (cm0.l pv0).toArray 40)) w.heap.size cm0 pv0 := heap_alloc_new w _
  obtain ⟨w0, hw0⟩ : ∃ w0, w.alloc (.cells (cm0.l pv0).toArray 40) = w0 := ⟨_, rfl⟩
  rw [hw0] at hB0 hE0
  have K1 := Kept.mk (parseC_any v xs w0 (hgl.later hB0) (hr.later hB0 (Nat.le_refl _)))
  obtain ⟨a, c, rfl, -⟩ := hr
  have KB0 := Kept.mk hB0
  have KE0 := Kept.mk hE0
  have Ks0 := Kept.mk hE0.lt
  clear hgl hB0 hE0
  go_enter Tryz.func9, Tryz.ntmps9
  go_upto_region 1 with fail
  generalize hOb : Obj.cells (_ : Array Value) 40 = Ob
  have hOb2 : Ob = Obj.cells (cm0.l pv0).toArray 40 := by subst hOb; rfl
  subst hOb2
  clear hOb
  rw [hw0]
  clear hw0
  go_wp2_with fail
  refine Calls.mono K1.out (fun e w1 hp => ?_)
  obtain ⟨R, pv, E, rfl, how, hE, hb⟩ := hp
  have KE := Kept.mk hE
  have hok := (dc_ok hE).1
  have hE0 := KE0.out.far hb Ks0.out
  have hB := KB0.out.trans (hb.mono KB0.out.size)
  have hil : (Tryz.prog.info? 40).map (·.size) = some (R.l pv).toArray.size := by rw [List.size_toArray, CmC.len hok]; kernel_rfl
  have KIl2 := Kept.mk hil
  have KTh : Kept (w1.there w.heap.size 0 (R.l pv).toArray.size) := ⟨hE0.thereAt cm0_ok 0 _ (by rw [List.size_toArray, CmC.len hok]; omega)⟩
  have KOl : Kept ((R.l pv).toArray.all (·.oneCell') = true) := ⟨CmC.all how.one⟩
  have KFin := Kept.mk (hE0.over cm0_ok (d := R) (qv := pv) hok)
  unfold CmB at KFin
  have KBf := Kept.mk (Sh.below_cells (b := w.heap.size) (Nat.le_refl _) (R.l pv) 0 w w1 hB)
  have KOf : Kept (OwnP (w1.setCells w.heap.size 0 (R.l pv)) w.heap.size pv R.ps) := ⟨(how.far fun g hg => by
    have hlt := (how.lt g hg).1
    have := Ks0.out
    rw [Sh.heap_setCells_far _ _ (by omega)]).mono (by have := Ks0.out; omega)⟩
  obtain ⟨RL, hRL⟩ : ∃ RL, (R.l pv) = RL := ⟨_, rfl⟩
  have KRL := Kept.mk hRL
  rw [hRL] at KIl2 KTh KOl KFin KBf KOf
  rw [hRL]
  clear hRL hE hok hE0 hB hil hb K1 KE0 KB0 how
  go_wp2_with (first | (refine wpList_store_mid rfl 40 _ _ rfl w.heap.size 0 RL.toArray rfl rfl KTh.out KIl2.out KOl.out ?_))
  refine bodyPost_ret (v := .tuple #[.agg RL.toArray, .int .i64 E]) (Sh.results_row2 (p := 2) (u := 3) (ty := 40) Tryz.results9 _ _ w.heap.size 40 _ (0, 0) _ rfl KFin.out Tryz.underlying40 rfl KIl2.out) rfl ⟨R, pv, E, by rw [KRL.out], KOf.out, KE.out, KBf.out⟩
end Go.Proofs.YtkbalngddlhlpaaGreatDoor
