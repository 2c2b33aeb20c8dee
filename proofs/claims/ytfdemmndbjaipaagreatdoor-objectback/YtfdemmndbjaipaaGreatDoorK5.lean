/-
  The walk of ObjectBack. (By tools/gen_k4.py.)
-/
import Derived.Test.YtfdemmndbjaipaaGreatDoorK4
import Derived.Test.YtfdemmndbjaipaaGreatDoorO14
namespace Go.Proofs.YtfdemmndbjaipaaGreatDoor
open Go.RowKit

/-- A snapshot stored in a block of its own. -/
structure CmS (w1 wa w2 : World) (R : CmC) (pv : Value) : Prop where
  al : w1.alloc (.cells (cm0.l pv0).toArray 29) = wa
  st : wa.setCells w1.heap.size 0 (R.l pv) = w2
  th : wa.there w1.heap.size 0 (R.l pv).toArray.size
  bl : CmB w2 w1.heap.size R pv
  be : Below w1.heap.size w1 w2
theorem cm_store (w1 : World) {R : CmC} (pv : Value) (hok : R.ok) : ∃ wa w2, CmS w1 wa w2 R pv := by
  obtain ⟨wa, hwa, hBa, hLa⟩ := CmC.box w1 cm0 pv0
  exact ⟨wa, _, hwa, rfl, hLa.thereAt cm0_ok 0 _ (by rw [List.size_toArray, CmC.len hok]; omega), hLa.over cm0_ok hok, Sh.below_cells (Nat.le_refl _) _ _ _ _ hBa⟩
structure LbS (w1 wa w2 : World) (R : LbC) : Prop where
  al : w1.alloc (.cells lb0.l.toArray 32) = wa
  st : wa.setCells w1.heap.size 0 R.l = w2
  th : wa.there w1.heap.size 0 R.l.toArray.size
  bl : LbB w2 w1.heap.size R
  be : Below w1.heap.size w1 w2
theorem lb_store (w1 : World) {R : LbC} (hok : R.ok) : ∃ wa w2, LbS w1 wa w2 R := by
  obtain ⟨wa, hwa, hBa, hLa⟩ := LbC.box w1 lb0
  exact ⟨wa, _, hwa, rfl, hLa.there lb0_ok _ (by rw [List.size_toArray, LbC.len hok]; exact Nat.le_refl _), hLa.over lb0_ok hok, Sh.below_cells (Nat.le_refl _) _ _ _ _ hBa⟩
theorem lb_info {R : LbC} (hok : R.ok) : (Tryz.prog.info? 32).map (·.size) = some R.l.length := by rw [LbC.len hok]; kernel_rfl
theorem lb_info2 {R : LbC} (hok : R.ok) : (Tryz.prog.info? 32).map (·.size) = some R.l.toArray.size := by rw [List.size_toArray]; exact lb_info hok
/-- The two boxes. -/
structure BkF (w W : World) (c : CmC) (pv : Value) (d : LbC) : Prop where
  bc : CmB W w.heap.size c pv
  bd : LbB W (w.heap.size + 1) d
  be : Below w.heap.size w W
  sz : w.heap.size + 2 ≤ W.heap.size
theorem BkF.later {w W W' : World} {c : CmC} {pv : Value} {d : LbC} (h : BkF w W c pv d) (hb : Below W.heap.size W W') : BkF w W' c pv d := by
  have hs := h.sz
  exact ⟨h.bc.far hb (by omega), h.bd.far hb (by omega), h.be.trans (hb.mono h.be.size), Nat.le_trans h.sz hb.size⟩
theorem two_box (w : World) (c : CmC) (pv : Value) (d : LbC) : ∃ w0, (w.alloc (.cells (c.l pv).toArray 29)).alloc (.cells d.l.toArray 32) = w0 ∧ BkF w w0 c pv d := by
  obtain ⟨w1, hw1, hB1, hL1⟩ := CmC.box w c pv
  obtain ⟨w2, hw2, hB2, hL2⟩ := LbC.box w1 d
  have hs1 : w1.heap.size = w.heap.size + 1 := by rw [← hw1]; simp
  rw [hs1] at hL2
  refine ⟨w2, by rw [hw1, hw2], hL1.far hB2 hL1.lt, hL2, hB1.trans (hB2.mono hB1.size), ?_⟩
  rw [← hw2]
  simp
  omega
/-- A slot's value may be forgotten. -/
theorem forget {P : Program} {c : Code} {Q : Exit → Act → World → Prop} {DEFS : List Deferred} {w : World} {L : List Value} (i : Nat) (h : ∀ z, Code.wp P c Q { tmps := (L.set i z).toArray, defers := DEFS } w) : Code.wp P c Q { tmps := L.toArray, defers := DEFS } w := by
  by_cases hi : i < L.length
  · have := h L[i]
    rwa [List.set_getElem_self] at this
  · have := h (.bool true)
    rwa [List.set_eq_of_length_le (by omega)] at this
theorem cm_put {wC w5 : World} {R : CmC} {qv : Value} {base : Nat} (hL : CmB w5 wC.heap.size cm0 pv0) (hok : R.ok) (hb : Below wC.heap.size wC w5) (how : OwnP w5 base qv R.ps) (hlt : wC.heap.size < base) :
    ∃ w6, w5.setCells wC.heap.size 0 (R.l qv) = w6 ∧ w5.there wC.heap.size 0 (R.l qv).toArray.size ∧ CmB w6 wC.heap.size R qv ∧ Below wC.heap.size wC w6 ∧ RdP w6 qv R.ps := by
  refine ⟨_, rfl, hL.thereAt cm0_ok 0 _ (by rw [List.size_toArray, CmC.len hok]; omega), hL.over cm0_ok hok, Sh.below_cells (Nat.le_refl _) _ _ _ _ hb, (how.far fun g hg => ?_).rdP⟩
  have := how.lt g hg
  exact Sh.heap_setCells_far _ _ (by omega) _ _ _
theorem lb_put {wC w5 : World} {R : LbC} (hL : LbB w5 wC.heap.size lb0) (hok : R.ok) (hb : Below wC.heap.size wC w5) :
    ∃ w6, w5.setCells wC.heap.size 0 R.l = w6 ∧ w5.there wC.heap.size 0 R.l.toArray.size ∧ LbB w6 wC.heap.size R ∧ Below wC.heap.size wC w6 :=
  ⟨_, rfl, hL.there lb0_ok _ (by rw [List.size_toArray, LbC.len hok]; exact Nat.le_refl _), hL.over lb0_ok hok, Sh.below_cells (Nat.le_refl _) _ _ _ _ hb⟩
set_option maxHeartbeats 64000000 in
set_option maxRecDepth 100000 in
theorem back_walk (v0 : Value) (es : List EnC) (c : CmC) (pv : Value) (d : LbC) (k : Int) (u : Value) (xs : List Int) (w : World) (hg : Gv w) (hgl : Gl w) (hr : RdE w v0 es) (hok : c.ok) (hpv : RdP w pv c.ps) (hdk : d.ok) (hx : Rd .u8 anyB w u xs) (hA : Sh.AllB xs) (hl : xs.length ≤ 140737488355328) (hel : es.length ≤ 140737488355328) :
    Calls Tryz.prog 3 #[v0, .agg (c.l pv).toArray, .agg d.l.toArray, .int .i64 k, u] w fun e w' => e = .returned (.bool true) ∧ Below w.heap.size w w' := by
  obtain ⟨w0, hw0, hF0⟩ := two_box w c pv d
  have KF0 := Kept.mk hF0
  have KAw := Kept.mk (awake_any w0 (hg.later hF0.be))
  have Koke : Kept (∀ e ∈ es, e.ok) := ⟨by obtain ⟨_, _, _, _, h, _⟩ := hr; exact h⟩
  have Kokc := Kept.mk hok
  have Kokd := Kept.mk hdk
  have KTb : Kept (treE es = 0 → ∀ R E, PtEnd (putL es) R E → R = es ∧ E = 0) := ⟨fun h R E hp => pt_back h Koke.out (by unfold putL at hp; rw [if_pos h] at hp; exact hp)⟩
  have KCb : Kept (ceF c = 0 → ∀ R E, DcEnd (pcmL c) R E → R = c ∧ E = 0) := ⟨fun h R E hp => dc_back Kokc.out h (by unfold pcmL at hp; rw [if_pos h] at hp; exact hp)⟩
  have KGb : Kept (teF d = 0 → ∀ R E, DgEnd (ptgL d) R E → R = d ∧ E = 0) := ⟨fun h R E hp => dg_back Kokd.out h (by unfold ptgL at hp; rw [if_pos h] at hp; exact hp)⟩
  have KPT : Kept (∀ w', Below w.heap.size w w' → Calls Tryz.prog 5 #[v0] w' fun e w2 => ∃ v', e = .returned (.tuple #[v', .int .i64 (treE es)]) ∧ Own .u8 5 w2 w'.heap.size v' (putL es) ∧ Below w'.heap.size w' w2) := ⟨fun w' h => putTree_any v0 es w' (hg.later h) (hr.later h)⟩
  have KPTg : Kept (∀ w' v R, Below w.heap.size w w' → RdE w' v R → Calls Tryz.prog 5 #[v] w' fun e w2 => ∃ v', e = .returned (.tuple #[v', .int .i64 (treE R)]) ∧ Own .u8 5 w2 w'.heap.size v' (putL R) ∧ Below w'.heap.size w' w2) := ⟨fun w' v R h hr' => putTree_any v R w' (hg.later h) hr'⟩
  have KQT : Kept (∀ w' v ys, Below w.heap.size w w' → Rd .u8 anyB w' v ys → Calls Tryz.prog 6 #[v] w' fun e w2 => ∃ v2 R E, e = .returned (.tuple #[v2, .int .i64 E]) ∧ OwnE w2 w'.heap.size v2 R ∧ PtEnd ys R E ∧ Below w'.heap.size w' w2) := ⟨fun w' v ys h hr' => parseTree_any v ys w' (hg.later h) (hgl.later h) hr'⟩
  have KCk : Kept (∀ w' v ys, Below w.heap.size w w' → Rd .u8 anyB w' v ys → Calls Tryz.prog 8 #[.agg #[.int .i64 2, v]] w' fun e w2 => ∃ R E, e = .returned (.int .i64 E) ∧ PtEnd ys R E ∧ Below w'.heap.size w' w2) := ⟨fun w' v ys h hr' => checkTree_any v ys w' (hg.later h) (hgl.later h) hr'⟩
  have KPC : Kept (∀ w', Below w.heap.size w w' → Calls Tryz.prog 9 #[.agg (c.l pv).toArray] w' fun e w2 => ∃ v', e = .returned (.tuple #[v', .int .i64 (ceF c)]) ∧ Own .u8 5 w2 w'.heap.size v' (pcmL c) ∧ Below w'.heap.size w' w2) := ⟨fun w' h => putCommit_any c pv w' (hgl.later h) Kokc.out (hpv.later h (Nat.le_refl _))⟩
  have KPCg : Kept (∀ w' (R : CmC) qv, Below w.heap.size w w' → R.ok → RdP w' qv R.ps → Calls Tryz.prog 9 #[.agg (R.l qv).toArray] w' fun e w2 => ∃ v', e = .returned (.tuple #[v', .int .i64 (ceF R)]) ∧ Own .u8 5 w2 w'.heap.size v' (pcmL R) ∧ Below w'.heap.size w' w2) := ⟨fun w' R qv h hR hq => putCommit_any R qv w' (hgl.later h) hR hq⟩
  have KQC : Kept (∀ w' v ys, Below w.heap.size w w' → Rd .u8 anyB w' v ys → Calls Tryz.prog 10 #[v] w' fun e w2 => ∃ R qv E, e = .returned (.tuple #[.agg (R.l qv).toArray, .int .i64 E]) ∧ OwnP w2 w'.heap.size qv R.ps ∧ DcEnd ys R E ∧ Below w'.heap.size w' w2) := ⟨fun w' v ys h hr' => parseCommit_any v ys w' (hgl.later h) hr'⟩
  have KSC : Kept (∀ w' qv, Below w.heap.size w w' → RdP w' qv c.ps → c.ps.length ≤ 16 → Calls Tryz.prog 11 #[.agg (c.l qv).toArray, .agg (c.l pv).toArray] w' fun e w2 => e = .returned (.bool true) ∧ Below w'.heap.size w' w2) := ⟨fun w' qv h hq hn => sameCommit_any c qv pv w' Kokc.out hq (hpv.later h (Nat.le_refl _)) (by omega)⟩
  have KPG : Kept (∀ (R : LbC) w', R.ok → Below w.heap.size w w' → Calls Tryz.prog 12 #[.agg R.l.toArray] w' fun e w2 => ∃ v', e = .returned (.tuple #[v', .int .i64 (teF R)]) ∧ Own .u8 5 w2 w'.heap.size v' (ptgL R) ∧ Below w'.heap.size w' w2) := ⟨fun R w' hR h => putTag_any R w' (hgl.later h) hR⟩
  have KQG : Kept (∀ w' v ys, Below w.heap.size w w' → Rd .u8 anyB w' v ys → Calls Tryz.prog 13 #[v] w' fun e w2 => ∃ R E, e = .returned (.tuple #[.agg R.l.toArray, .int .i64 E]) ∧ DgEnd ys R E ∧ Below w'.heap.size w' w2) := ⟨fun w' v ys h hr' => parseTag_any v ys w' (hgl.later h) hr'⟩
  have KTw : Kept (∀ w', Below w.heap.size w w' → Calls Tryz.prog 14 #[u] w' fun e w2 => ∃ v', e = .returned v' ∧ Rd .u8 anyB w2 v' xs ∧ Below w'.heap.size w' w2) := ⟨fun w' h => (Sh.twin_any _ xs w' (shRd (hx.later h (Nat.le_refl _)) hA) hl).mono fun e w2 hp => by
    obtain ⟨v', h1, h2, h3⟩ := hp
    exact ⟨v', h1, (Own.rd (k := .u8) h2).any, h3⟩⟩
  have KSm : Kept (∀ w' v, Below w.heap.size w w' → Rd .u8 anyB w' v xs → Calls Tryz.prog 15 #[v, u] w' fun e w2 => e = .returned (.bool true) ∧ w2 = w') := ⟨fun w' v h hv => by
    have := Sh.same_any v u xs xs w' (shRd hv hA) (shRd (hx.later h (Nat.le_refl _)) hA)
    rw [decide_eq_true rfl] at this
    exact this⟩
  have KIc : Kept ((Tryz.prog.info? 29).map (·.size) = some (c.l pv).length) := ⟨cm_info hok⟩
  have KId := Kept.mk (lb_info hdk)
  have KIdA := Kept.mk (lb_info2 hdk)
  have KOd := Kept.mk d.all
  have KEq : Kept (∀ W, (Op.equalIn 10000 32 (.agg d.l.toArray) (.agg d.l.toArray)).run Tryz.prog W = .ok true W) := ⟨fun W => eq_lab W 9997 Kokd.out⟩
  have KAb := Kept.mk hA
  have KSE0 : Kept (es.length ≤ 4096 → ∀ w' v, Below w.heap.size w w' → RdE w' v es → Calls Tryz.prog 7 #[v, v0] w' fun e w2 => e = .returned (.bool true) ∧ Below w'.heap.size w' w2) := ⟨fun hn w' v h hv => sameE_any v v0 es w' hv (hr.later h) (by omega)⟩
  obtain ⟨pa, pc, rfl, -⟩ := hr
  obtain ⟨ua, uc, rfl, -, -, -⟩ := hx.form
  have hl' : (xs.length : Int) ≤ 140737488355328 := by omega
  have hn' : (es.length : Int) ≤ 140737488355328 := by omega
  clear hg hgl hok hpv hdk hx hA hF0 hl hel
  go_enter Tryz.func3, Tryz.ntmps3
  go_upto_region 1 with fail
  try rw [hw0]
  clear hw0
  go_wp2_with fail
  refine Calls.mono KAw.out (fun e w1 hp => ?_)
  obtain ⟨rfl, hb⟩ := hp
  have KF1 := Kept.mk (KF0.out.later hb)
  clear hb KAw KF0
  by_cases h300 : 300 < es.length
  · have h1 : (300 : Int) < (es.length : Int) := by omega
    go_wp2
    go_ret
    exact ⟨rfl, KF1.out.be⟩
  by_cases h20 : 20000 < xs.length
  · have h1 : ¬ (300 : Int) < (es.length : Int) := by omega
    have h2 : (20000 : Int) < (xs.length : Int) := by omega
    go_wp2
    go_ret
    exact ⟨rfl, KF1.out.be⟩
  have h1 : ¬ (300 : Int) < (es.length : Int) := by omega
  have h2 : ¬ (20000 : Int) < (xs.length : Int) := by omega
  have KSE := Kept.mk (KSE0.out (by omega))
  clear h300 h20 KSE0
  go_wp2_with fail
  clear h1 h2
  refine Calls.mono (KPT.out w1 KF1.out.be) (fun e w2 hp => ?_)
  obtain ⟨v2, rfl, ho2, hb2⟩ := hp
  have KF2 := Kept.mk (KF1.out.later hb2)
  clear KF1 KPT
  obtain ⟨TE, hTE⟩ : ∃ TE, treE es = TE := ⟨_, rfl⟩
  rw [hTE]
  by_cases hEA : treE es = 0
  case' pos =>
    obtain rfl : TE = 0 := by rw [← hTE, hEA]
    clear hTE
    obtain ⟨a2, c2, rfl, -, -, -⟩ := ho2.rd.form
    have K3 := Kept.mk (KQT.out w2 _ (putL es) KF2.out.be ho2.rd.any)
    have KO2 := Kept.mk ho2.rd.any
    clear hb2 ho2
    go_wp2_with fail
    refine Calls.mono K3.out (fun e w3 hp => ?_)
    obtain ⟨v3, R, E, rfl, ho3, hE, hb3⟩ := hp
    obtain ⟨hRe, rfl⟩ := KTb.out hEA R E hE
    replace hRe := hRe.symm
    subst hRe
    have KF3 := Kept.mk (KF2.out.later hb3)
    have K4 := Kept.mk (KSE.out w3 v3 KF3.out.be ho3.rdE)
    have KO3 := Kept.mk (KO2.out.later hb3 (Nat.le_refl _))
    clear hb3 ho3 hE K3 KO2 KF2
    go_wp2_with fail
    refine Calls.mono K4.out (fun e w4 hp => ?_)
    obtain ⟨rfl, hb4⟩ := hp
    have KF4 := Kept.mk (KF3.out.later hb4)
    have K5 := Kept.mk (KCk.out w4 _ (putL es) KF4.out.be (KO3.out.later hb4 (Nat.le_refl _)))
    clear hb4 K4 KO3 KF3
    go_wp2_with fail
    refine Calls.mono K5.out (fun e wA hp => ?_)
    obtain ⟨R5, E5, rfl, hE5, hb5⟩ := hp
    obtain ⟨-, rfl⟩ := KTb.out hEA R5 E5 hE5
    have KFA := Kept.mk (KF4.out.later hb5)
    clear hb5 hE5 K5 KF4
    go_upto_region 10 with fail
    refine forget 11 (fun _ => ?_)
    refine forget 12 (fun _ => ?_)
    refine forget 13 (fun _ => ?_)
    refine forget 14 (fun _ => ?_)
    refine forget 31 (fun _ => ?_)
    refine forget 32 (fun _ => ?_)
    refine forget 33 (fun _ => ?_)
    refine forget 34 (fun _ => ?_)
    refine forget 35 (fun _ => ?_)
    refine forget 36 (fun _ => ?_)
    refine forget 37 (fun _ => ?_)
    refine forget 38 (fun _ => ?_)
    refine forget 39 (fun _ => ?_)
    refine forget 40 (fun _ => ?_)
    refine forget 41 (fun _ => ?_)
    refine forget 42 (fun _ => ?_)
    refine forget 43 (fun _ => ?_)
    refine forget 44 (fun _ => ?_)
    refine forget 45 (fun _ => ?_)
    refine forget 46 (fun _ => ?_)
    refine forget 47 (fun _ => ?_)
    refine forget 48 (fun _ => ?_)
    refine forget 49 (fun _ => ?_)
    refine forget 50 (fun _ => ?_)
    refine forget 51 (fun _ => ?_)
    refine forget 52 (fun _ => ?_)
    refine forget 53 (fun _ => ?_)
    refine forget 54 (fun _ => ?_)
    refine forget 55 (fun _ => ?_)
    refine forget 56 (fun _ => ?_)
    refine forget 57 (fun _ => ?_)
    refine forget 58 (fun _ => ?_)
    refine forget 59 (fun _ => ?_)
    refine forget 60 (fun _ => ?_)
    refine forget 61 (fun _ => ?_)
    refine forget 62 (fun _ => ?_)
    refine forget 63 (fun _ => ?_)
    refine forget 64 (fun _ => ?_)
    simp only [List.set_cons_succ, List.set_cons_zero]
  case' neg =>
    have hTEb : (TE == 0) = false := by rw [← hTE]; simpa using hEA
    have KFA := KF2
    obtain ⟨wA, hwA⟩ : ∃ wA, wA = w2 := ⟨_, rfl⟩
    subst hwA
    clear hb2 ho2 hTE hEA KF2
    go_upto_region 10 with fail
    clear hTEb
  all_goals
    have KRb0 := Kept.mk KFA.out.bc.range
    have K0 := Kept.mk (KPC.out wA KFA.out.be)
    obtain ⟨CL, hCL⟩ : ∃ CL, c.l pv = CL := ⟨_, rfl⟩
    have KIc0 := KIc
    rw [hCL] at KRb0 K0 KIc0
    go_wp2_with (first | (refine BigFrame.wpList_want rfl (fun K hK => wp_load_mid 29 _ rfl w.heap.size 0 rfl CL _ KRb0.out Tryz.underlying29 rfl KIc0.out (hK _ _ ?_)); clear hK K))
    refine Calls.mono K0.out (fun e w2 hp => ?_)
    obtain ⟨v2, rfl, ho2, hb2⟩ := hp
    have KF2 := Kept.mk (KFA.out.later hb2)
    clear KFA KRb0 K0 KIc0 hCL
    obtain ⟨TE, hTE⟩ : ∃ TE, ceF c = TE := ⟨_, rfl⟩
    rw [hTE]
    by_cases hEB : ceF c = 0
    case' pos =>
      obtain rfl : TE = 0 := by rw [← hTE, hEB]
      clear hTE
      obtain ⟨a2, c2, rfl, -, -, -⟩ := ho2.rd.form
      have K3 := Kept.mk (KQC.out w2 _ (pcmL c) KF2.out.be ho2.rd.any)
      clear hb2 ho2
      go_wp2_with fail
      refine Calls.mono K3.out (fun e w3 hp => ?_)
      obtain ⟨R, qv, E, rfl, how, hE, hb3⟩ := hp
      obtain ⟨hRe, rfl⟩ := KCb.out hEB R E hE
      replace hRe := hRe.symm
      subst hRe
      have KF3 := Kept.mk (KF2.out.later hb3)
      obtain ⟨wa, wb, hS⟩ := cm_store w3 qv Kokc.out
      have KFb := Kept.mk (KF3.out.later hS.be)
      have KI1 : Kept ((Tryz.prog.info? 29).map (·.size) = some (c.l qv).length) := ⟨cm_info Kokc.out⟩
      have KI2 : Kept ((Tryz.prog.info? 29).map (·.size) = some (c.l qv).toArray.size) := ⟨cm_info2 Kokc.out⟩
      have KOl : Kept ((c.l qv).toArray.all (·.oneCell') = true) := ⟨CmC.all how.one⟩
      have Ka := Kept.mk hS.al
      have Kt := Kept.mk hS.st
      have Kh := Kept.mk hS.th
      have KRa := Kept.mk hS.bl.range
      have KRb := Kept.mk KFb.out.bc.range
      have K4 := Kept.mk (KSC.out wb qv KFb.out.be (how.rdP.later hS.be (Nat.le_refl _)) (ceF_ok hEB).1)
      clear hb3 how hE K3 hS KF3 KF2
      obtain ⟨RL, hRL⟩ : ∃ RL, c.l qv = RL := ⟨_, rfl⟩
      rw [hRL] at KI1 KI2 KOl Kt Kh KRa K4
      rw [hRL]
      clear hRL
      obtain ⟨CL, hCL⟩ : ∃ CL, c.l pv = CL := ⟨_, rfl⟩
      have KIc2 := KIc
      rw [hCL] at KRb K4 KIc2
      go_wp2_with (first | (generalize hOb : Obj.cells (_ : Array Value) 29 = Ob; obtain rfl : Ob = Obj.cells (cm0.l pv0).toArray 29 := (by subst hOb; rfl); clear hOb; rw [Ka.out]; refine wpList_store_mid rfl 29 _ _ rfl w3.heap.size 0 RL.toArray rfl rfl Kh.out KI2.out KOl.out ?_; rw [Kt.out]) | (refine BigFrame.wpList_want rfl (fun K hK => wp_load_mid 29 _ rfl w3.heap.size 0 rfl RL _ KRa.out Tryz.underlying29 rfl KI1.out (hK _ _ ?_)); clear hK K) | (refine BigFrame.wpList_want rfl (fun K hK => wp_load_mid 29 _ rfl w.heap.size 0 rfl CL _ KRb.out Tryz.underlying29 rfl KIc2.out (hK _ _ ?_)); clear hK K))
      refine Calls.mono K4.out (fun e wB hp => ?_)
      obtain ⟨rfl, hb5⟩ := hp
      have KFB := Kept.mk (KFb.out.later hb5)
      clear hb5 K4 KFb Ka Kt Kh KRa KRb KI1 KI2 KOl KIc2 hCL
      go_upto_region 15 with fail
      refine forget 15 (fun _ => ?_)
      refine forget 16 (fun _ => ?_)
      refine forget 17 (fun _ => ?_)
      refine forget 18 (fun _ => ?_)
      refine forget 65 (fun _ => ?_)
      refine forget 66 (fun _ => ?_)
      refine forget 67 (fun _ => ?_)
      refine forget 68 (fun _ => ?_)
      refine forget 69 (fun _ => ?_)
      refine forget 70 (fun _ => ?_)
      refine forget 71 (fun _ => ?_)
      refine forget 72 (fun _ => ?_)
      refine forget 73 (fun _ => ?_)
      refine forget 74 (fun _ => ?_)
      refine forget 75 (fun _ => ?_)
      refine forget 76 (fun _ => ?_)
      refine forget 77 (fun _ => ?_)
      refine forget 78 (fun _ => ?_)
      refine forget 79 (fun _ => ?_)
      refine forget 80 (fun _ => ?_)
      refine forget 81 (fun _ => ?_)
      refine forget 82 (fun _ => ?_)
      refine forget 83 (fun _ => ?_)
      refine forget 84 (fun _ => ?_)
      simp only [List.set_cons_succ, List.set_cons_zero]
    case' neg =>
      have hTEb : (TE == 0) = false := by rw [← hTE]; simpa using hEB
      have KFB := KF2
      obtain ⟨wB, hwB⟩ : ∃ wB, wB = w2 := ⟨_, rfl⟩
      subst hwB
      clear hb2 ho2 hTE hEB KF2
      go_upto_region 15 with fail
      clear hTEb
  all_goals
    have KRb0 := Kept.mk KFB.out.bd.range
    have K0 := Kept.mk (KPG.out d wB Kokd.out KFB.out.be)
    obtain ⟨DL, hDL⟩ : ∃ DL, d.l = DL := ⟨_, rfl⟩
    have KId0 := KId
    rw [hDL] at KRb0 K0 KId0
    go_wp2_with (first | (refine BigFrame.wpList_want rfl (fun K hK => wp_load_mid 32 _ rfl (w.heap.size + 1) 0 rfl DL _ KRb0.out Tryz.underlying32 rfl KId0.out (hK _ _ ?_)); clear hK K))
    refine Calls.mono K0.out (fun e w2 hp => ?_)
    obtain ⟨v2, rfl, ho2, hb2⟩ := hp
    have KF2 := Kept.mk (KFB.out.later hb2)
    clear KFB KRb0 K0 KId0 hDL
    obtain ⟨TE, hTE⟩ : ∃ TE, teF d = TE := ⟨_, rfl⟩
    rw [hTE]
    by_cases hEC : teF d = 0
    case' pos =>
      obtain rfl : TE = 0 := by rw [← hTE, hEC]
      clear hTE
      obtain ⟨a2, c2, rfl, -, -, -⟩ := ho2.rd.form
      have K3 := Kept.mk (KQG.out w2 _ (ptgL d) KF2.out.be ho2.rd.any)
      clear hb2 ho2
      go_wp2_with fail
      refine Calls.mono K3.out (fun e w3 hp => ?_)
      obtain ⟨R, E, rfl, hE, hb3⟩ := hp
      obtain ⟨hRe, rfl⟩ := KGb.out hEC R E hE
      replace hRe := hRe.symm
      subst hRe
      have KF3 := Kept.mk (KF2.out.later hb3)
      obtain ⟨wa, wC, hS⟩ := lb_store w3 Kokd.out
      have KFC := Kept.mk (KF3.out.later hS.be)
      have Ka := Kept.mk hS.al
      have Kt := Kept.mk hS.st
      have Kh := Kept.mk hS.th
      have KRa := Kept.mk hS.bl.range
      have KRb := Kept.mk KFC.out.bd.range
      clear hb3 hE K3 hS KF3 KF2
      obtain ⟨RL, hRL⟩ : ∃ RL, d.l = RL := ⟨_, rfl⟩
      have KId2 := KId
      have KId3 := KIdA
      have KOd2 := KOd
      have KEq2 := KEq
      rw [hRL] at KId2 KId3 KOd2 Kt Kh KRa KRb KEq2
      rw [hRL]
      go_upto_region 20 with (first | (generalize hOb : Obj.cells (_ : Array Value) 32 = Ob; obtain rfl : Ob = Obj.cells lb0.l.toArray 32 := (by subst hOb; rfl); clear hOb; rw [Ka.out]; refine wpList_store_mid rfl 32 _ _ rfl w3.heap.size 0 RL.toArray rfl rfl Kh.out KId3.out KOd2.out ?_; rw [Kt.out]) | (refine BigFrame.wpList_want rfl (fun K hK => wp_load_mid 32 _ rfl w3.heap.size 0 rfl RL _ KRa.out Tryz.underlying32 rfl KId2.out (hK _ _ ?_)); clear hK K) | (refine BigFrame.wpList_want rfl (fun K hK => wp_load_mid 32 _ rfl (w.heap.size + 1) 0 rfl RL _ KRb.out Tryz.underlying32 rfl KId2.out (hK _ _ ?_)); clear hK K) | (refine BigFrame.wpList_want rfl (fun K hK => wp_exec (exec_neqC 32 Tryz.eqGuardType32 rfl rfl rfl (KEq2.out _)) (hK _ _ ?_)); clear hK K))
      clear Ka Kt Kh KRa KRb KId2 KId3 KOd2 KEq2 hRL
      refine forget 19 (fun _ => ?_)
      refine forget 20 (fun _ => ?_)
      refine forget 21 (fun _ => ?_)
      refine forget 22 (fun _ => ?_)
      refine forget 85 (fun _ => ?_)
      refine forget 86 (fun _ => ?_)
      refine forget 87 (fun _ => ?_)
      refine forget 88 (fun _ => ?_)
      refine forget 89 (fun _ => ?_)
      refine forget 90 (fun _ => ?_)
      refine forget 91 (fun _ => ?_)
      refine forget 92 (fun _ => ?_)
      refine forget 93 (fun _ => ?_)
      refine forget 94 (fun _ => ?_)
      refine forget 95 (fun _ => ?_)
      refine forget 96 (fun _ => ?_)
      refine forget 97 (fun _ => ?_)
      refine forget 98 (fun _ => ?_)
      refine forget 99 (fun _ => ?_)
      refine forget 100 (fun _ => ?_)
      refine forget 101 (fun _ => ?_)
      refine forget 102 (fun _ => ?_)
      refine forget 103 (fun _ => ?_)
      simp only [List.set_cons_succ, List.set_cons_zero]
    case' neg =>
      have hTEb : (TE == 0) = false := by rw [← hTE]; simpa using hEC
      have KFC := KF2
      obtain ⟨wC, hwC⟩ : ∃ wC, wC = w2 := ⟨_, rfl⟩
      subst hwC
      clear hb2 ho2 hTE hEC KF2
      go_upto_region 20 with fail
      clear hTEb
  all_goals
    clear KTb KCb KGb KCk KPC KSC KSE KIc KId KIdA KOd KEq Koke Kokc Kokd
    rcases (by omega : k.tmod 3 = 0 ∨ k.tmod 3 = 1 ∨ ¬ (k.tmod 3 = 0 ∨ k.tmod 3 = 1)) with h0 | h0 | h0
    · have hk0 : (k.tmod 3 == 0) = true := by rw [h0]; rfl
      clear h0
      have K3 := Kept.mk (KTw.out wC KFC.out.be)
      go_wp2_with fail
      refine Calls.mono K3.out (fun e w3 hp => ?_)
      obtain ⟨v3, rfl, hv3, hb3⟩ := hp
      have KF3 := Kept.mk (KFC.out.later hb3)
      have K4 := Kept.mk (KQT.out w3 v3 xs KF3.out.be hv3)
      clear K3 hb3 hv3 KFC
      go_wp2_with fail
      refine Calls.mono K4.out (fun e w4 hp => ?_)
      obtain ⟨v4, R, E, rfl, ho4, hE, hb4⟩ := hp
      have KF6 := Kept.mk (KF3.out.later hb4)
      have KP := Kept.mk (KPTg.out w4 v4 R KF6.out.be ho4.rdE)
      clear K4 hb4 KF3 ho4
      rcases pt_same KAb.out hE with hne | ⟨rfl, hte, hpl⟩
      · have hEb : (E == 0) = false := by simpa using hne
        have hEn : (E != 0) = true := by simpa using hne
        clear hne
        obtain ⟨T, hT⟩ : ∃ T, treE R = T := ⟨_, rfl⟩
        rw [hT] at KP
        clear hT
        go_wp2_with (fail)
        refine Calls.mono KP.out (fun e w7 hp => ?_)
        obtain ⟨v7, rfl, -, hb7⟩ := hp
        have KF7 := Kept.mk (KF6.out.later hb7)
        clear KP hb7 KF6
        go_wp2_with fail
        go_ret
        exact ⟨rfl, KF7.out.be⟩
      · rw [hte, hpl] at KP
        clear hte hpl
        go_wp2_with (fail)
        refine Calls.mono KP.out (fun e w7 hp => ?_)
        obtain ⟨v7, rfl, ho7, hb7⟩ := hp
        have KF7 := Kept.mk (KF6.out.later hb7)
        have K8 := Kept.mk (KSm.out w7 v7 KF7.out.be ho7.rd.any)
        clear KP hb7 KF6 ho7
        go_wp2_with fail
        refine Calls.mono K8.out (fun e w8 hp => ?_)
        obtain ⟨rfl, rfl⟩ := hp
        clear K8
        go_wp2_with fail
        go_ret
        exact ⟨rfl, KF7.out.be⟩
    · have hk0 : (k.tmod 3 == 0) = false := by rw [h0]; rfl
      have hk1 : (k.tmod 3 == 1) = true := by rw [h0]; rfl
      clear h0
      obtain ⟨wa, hwa, hBa, hLa⟩ := CmC.box wC cm0 pv0
      have Ka := Kept.mk hwa
      have KFa := Kept.mk (KFC.out.later hBa)
      have K3 := Kept.mk (KTw.out wa KFa.out.be)
      have hsa : wC.heap.size < wa.heap.size := hLa.lt
      clear hwa
      go_upto_region 32 with fail
      generalize hOb : Obj.cells (_ : Array Value) 29 = Ob
      obtain rfl : Ob = Obj.cells (cm0.l pv0).toArray 29 := (by subst hOb; rfl)
      clear hOb
      rw [Ka.out]
      go_wp2_with fail
      refine Calls.mono K3.out (fun e w3 hp => ?_)
      obtain ⟨v3, rfl, hv3, hb3⟩ := hp
      have KF3 := Kept.mk (KFa.out.later hb3)
      have K4 := Kept.mk (KQC.out w3 v3 xs KF3.out.be hv3)
      have hB3 := hBa.trans (hb3.mono hBa.size)
      have hL3 := hLa.far hb3 hsa
      have hs3 : wC.heap.size < w3.heap.size := hL3.lt
      have KL3 := Kept.mk hL3
      have KB3 := Kept.mk hB3
      clear K3 hb3 hv3 KFa hBa hLa hsa Ka hL3 hB3 KF3
      go_wp2_with fail
      refine Calls.mono K4.out (fun e w4 hp => ?_)
      obtain ⟨R, qv, E, rfl, how, hE, hb4⟩ := hp
      have hokR := (dc_ok hE).1
      obtain ⟨w6, hst, hth, hL6, hB6, hq6⟩ := cm_put (wC := wC) (KL3.out.far hb4 hs3) hokR (KB3.out.trans (hb4.mono KB3.out.size)) how hs3
      have KF6 := Kept.mk (KFC.out.later hB6)
      have KP := Kept.mk (KPCg.out w6 R qv KF6.out.be hokR hq6)
      have KI1 : Kept ((Tryz.prog.info? 29).map (·.size) = some (R.l qv).length) := ⟨cm_info hokR⟩
      have KI2 : Kept ((Tryz.prog.info? 29).map (·.size) = some (R.l qv).toArray.size) := ⟨cm_info2 hokR⟩
      have KOl : Kept ((R.l qv).toArray.all (·.oneCell') = true) := ⟨CmC.all how.one⟩
      have Kt := Kept.mk hst
      have Kh := Kept.mk hth
      have KRa := Kept.mk hL6.range
      clear K4 hb4 hst hth hL6 hB6 hq6 how hokR KL3 KB3 KFC
      obtain ⟨RL, hRL⟩ : ∃ RL, R.l qv = RL := ⟨_, rfl⟩
      rw [hRL] at KI1 KI2 KOl Kt Kh KRa KP
      rw [hRL]
      clear hRL
      rcases dc_same KAb.out hE with hne | ⟨rfl, hte, hpl⟩
      · have hEb : (E == 0) = false := by simpa using hne
        have hEn : (E != 0) = true := by simpa using hne
        clear hne
        obtain ⟨T, hT⟩ : ∃ T, ceF R = T := ⟨_, rfl⟩
        rw [hT] at KP
        clear hT
        go_wp2_with (first | (refine wpList_store_mid rfl 29 _ _ rfl wC.heap.size 0 RL.toArray rfl rfl Kh.out KI2.out KOl.out ?_; rw [Kt.out]) | (refine wpList_load_mid rfl 29 _ rfl wC.heap.size 0 rfl RL _ KRa.out Tryz.underlying29 rfl KI1.out ?_))
        refine Calls.mono KP.out (fun e w7 hp => ?_)
        obtain ⟨v7, rfl, -, hb7⟩ := hp
        have KF7 := Kept.mk (KF6.out.later hb7)
        clear KP hb7 KF6
        go_wp2_with fail
        go_ret
        exact ⟨rfl, KF7.out.be⟩
      · rw [hte, hpl] at KP
        clear hte hpl
        go_wp2_with (first | (refine wpList_store_mid rfl 29 _ _ rfl wC.heap.size 0 RL.toArray rfl rfl Kh.out KI2.out KOl.out ?_; rw [Kt.out]) | (refine wpList_load_mid rfl 29 _ rfl wC.heap.size 0 rfl RL _ KRa.out Tryz.underlying29 rfl KI1.out ?_))
        refine Calls.mono KP.out (fun e w7 hp => ?_)
        obtain ⟨v7, rfl, ho7, hb7⟩ := hp
        have KF7 := Kept.mk (KF6.out.later hb7)
        have K8 := Kept.mk (KSm.out w7 v7 KF7.out.be ho7.rd.any)
        clear KP hb7 KF6 ho7
        go_wp2_with fail
        refine Calls.mono K8.out (fun e w8 hp => ?_)
        obtain ⟨rfl, rfl⟩ := hp
        clear K8
        go_wp2_with fail
        go_ret
        exact ⟨rfl, KF7.out.be⟩
    · have hk0 : (k.tmod 3 == 0) = false := by simpa using fun h => h0 (.inl h)
      have hk1 : (k.tmod 3 == 1) = false := by simpa using fun h => h0 (.inr h)
      clear h0
      obtain ⟨wa, hwa, hBa, hLa⟩ := LbC.box wC lb0
      have Ka := Kept.mk hwa
      have KFa := Kept.mk (KFC.out.later hBa)
      have K3 := Kept.mk (KTw.out wa KFa.out.be)
      have hsa : wC.heap.size < wa.heap.size := hLa.lt
      clear hwa
      go_upto_region 24 with fail
      generalize hOb : Obj.cells (_ : Array Value) 32 = Ob
      obtain rfl : Ob = Obj.cells lb0.l.toArray 32 := (by subst hOb; rfl)
      clear hOb
      rw [Ka.out]
      go_wp2_with fail
      refine Calls.mono K3.out (fun e w3 hp => ?_)
      obtain ⟨v3, rfl, hv3, hb3⟩ := hp
      have KF3 := Kept.mk (KFa.out.later hb3)
      have K4 := Kept.mk (KQG.out w3 v3 xs KF3.out.be hv3)
      have hB3 := hBa.trans (hb3.mono hBa.size)
      have hL3 := hLa.far hb3 hsa
      have hs3 : wC.heap.size < w3.heap.size := hL3.lt
      have KL3 := Kept.mk hL3
      have KB3 := Kept.mk hB3
      clear K3 hb3 hv3 KFa hBa hLa hsa Ka hL3 hB3 KF3
      go_wp2_with fail
      refine Calls.mono K4.out (fun e w4 hp => ?_)
      obtain ⟨R, E, rfl, hE, hb4⟩ := hp
      have hokR := dg_ok hE
      obtain ⟨w6, hst, hth, hL6, hB6⟩ := lb_put (wC := wC) (KL3.out.far hb4 hs3) hokR (KB3.out.trans (hb4.mono KB3.out.size))
      have KF6 := Kept.mk (KFC.out.later hB6)
      have KP := Kept.mk (KPG.out R w6 hokR KF6.out.be)
      have KI1 := Kept.mk (lb_info hokR)
      have KI2 := Kept.mk (lb_info2 hokR)
      have KOl := Kept.mk R.all
      have Kt := Kept.mk hst
      have Kh := Kept.mk hth
      have KRa := Kept.mk hL6.range
      clear K4 hb4 hst hth hL6 hB6 hokR KL3 KB3 KFC
      obtain ⟨RL, hRL⟩ : ∃ RL, R.l = RL := ⟨_, rfl⟩
      rw [hRL] at KI1 KI2 KOl Kt Kh KRa KP
      rw [hRL]
      clear hRL
      rcases dg_same KAb.out hE with hne | ⟨rfl, hte, hpl⟩
      · have hEb : (E == 0) = false := by simpa using hne
        have hEn : (E != 0) = true := by simpa using hne
        clear hne
        obtain ⟨T, hT⟩ : ∃ T, teF R = T := ⟨_, rfl⟩
        rw [hT] at KP
        clear hT
        go_wp2_with (first | (refine wpList_store_mid rfl 32 _ _ rfl wC.heap.size 0 RL.toArray rfl rfl Kh.out KI2.out KOl.out ?_; rw [Kt.out]) | (refine wpList_load_mid rfl 32 _ rfl wC.heap.size 0 rfl RL _ KRa.out Tryz.underlying32 rfl KI1.out ?_))
        refine Calls.mono KP.out (fun e w7 hp => ?_)
        obtain ⟨v7, rfl, -, hb7⟩ := hp
        have KF7 := Kept.mk (KF6.out.later hb7)
        clear KP hb7 KF6
        go_wp2_with fail
        go_ret
        exact ⟨rfl, KF7.out.be⟩
      · rw [hte, hpl] at KP
        clear hte hpl
        go_wp2_with (first | (refine wpList_store_mid rfl 32 _ _ rfl wC.heap.size 0 RL.toArray rfl rfl Kh.out KI2.out KOl.out ?_; rw [Kt.out]) | (refine wpList_load_mid rfl 32 _ rfl wC.heap.size 0 rfl RL _ KRa.out Tryz.underlying32 rfl KI1.out ?_))
        refine Calls.mono KP.out (fun e w7 hp => ?_)
        obtain ⟨v7, rfl, ho7, hb7⟩ := hp
        have KF7 := Kept.mk (KF6.out.later hb7)
        have K8 := Kept.mk (KSm.out w7 v7 KF7.out.be ho7.rd.any)
        clear KP hb7 KF6 ho7
        go_wp2_with fail
        refine Calls.mono K8.out (fun e w8 hp => ?_)
        obtain ⟨rfl, rfl⟩ := hp
        clear K8
        go_wp2_with fail
        go_ret
        exact ⟨rfl, KF7.out.be⟩
end Go.Proofs.YtfdemmndbjaipaaGreatDoor
