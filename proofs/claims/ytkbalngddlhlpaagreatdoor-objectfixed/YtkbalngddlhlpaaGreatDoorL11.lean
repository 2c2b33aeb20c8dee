/-
  Tags that are written are read again. (Pure.)
-/
import Derived.Test.YtkbalngddlhlpaaGreatDoorL9
import Derived.Test.YtkbalngddlhlpaaGreatDoorN23
import Derived.Test.YtkbalngddlhlpaaGreatDoorShM4
namespace Go.Proofs.YtkbalngddlhlpaaGreatDoor
open Go.RowKit

theorem cl_ln {t word rest behind : List UInt8} (h : LnAt t word rest behind) : clF t word = (rest, behind) := by
  obtain ⟨rfl, h10⟩ := h
  have e1 : Lib.hasPrefix (word ++ 32 :: (rest ++ 10 :: behind)) (word ++ [32]) = true := by
    unfold Lib.hasPrefix
    rw [List.isPrefixOf_iff_prefix]
    exact ⟨rest ++ 10 :: behind, by simp⟩
  have e2 : (word ++ 32 :: (rest ++ 10 :: behind)).drop (word.length + 1) = rest ++ 10 :: behind := by
    rw [show word ++ 32 :: (rest ++ 10 :: behind) = (word ++ [32]) ++ (rest ++ 10 :: behind) by simp, List.drop_append_of_le_length (by simp), List.drop_of_length_le (by simp), List.nil_append]
  unfold clF
  rw [if_pos e1, e2, cut1 10 rest behind h10]
def hexU (ids : List Int) : List UInt8 := (strOfNums (Sh.hexF ids)).data.toList
def tgU (c : LbC) : List UInt8 := wO ++ 32 :: (hexU c.tg ++ 10 :: (wT ++ 32 :: ((wdF c.k).data.toList ++ 10 :: (wG ++ 32 :: (c.nm.data.toList ++ 10 :: (wR ++ 32 :: ((putB c.ig).data.toList ++ 10 :: (10 :: c.ms.data.toList))))))))
theorem nums_cat (a b : List Int) : (strOfNums (a ++ b)).data.toList = (strOfNums a).data.toList ++ (strOfNums b).data.toList := by
  rw [strOfNums_data, strOfNums_data, strOfNums_data, List.map_append]
theorem nums_strL (s : ByteArray) : (strOfNums (strL s)).data.toList = s.data.toList := by
  rw [strOfNums_data]
  unfold strL
  rw [List.map_map]
  conv => rhs; rw [← List.map_id s.data.toList]
  apply List.map_congr_left
  intro x _
  simp
theorem tgL_U (c : LbC) : (strOfNums (tgL c)).data.toList = tgU c := by
  unfold tgL tgU
  simp only [nums_cat, nums_strL]
  simp only [List.append_assoc]
  rfl
theorem hexU_no (ids : List Int) (hA : AllIn 0 256 ids) : (10 : UInt8) ∉ hexU ids := by
  intro h
  unfold hexU at h
  rw [strOfNums_data] at h
  obtain ⟨x, hx, he⟩ := List.mem_map.1 h
  have key : ∀ (l : List Int), AllIn 0 256 l → ∀ x ∈ Sh.hexF l, 48 ≤ x ∧ x < 128 := by
    intro l
    induction l with
    | nil => intro _ x hx; cases hx
    | cons y l ih =>
      intro hl x hx
      have hy := hl y List.mem_cons_self
      rw [Sh.hexF_cons] at hx
      have dg : ∀ d : Int, 0 ≤ d → d < 16 → 48 ≤ Sh.dgt d ∧ Sh.dgt d < 128 := by
        intro d h0 h1
        unfold Sh.dgt
        split <;> omega
      rcases List.mem_cons.1 hx with rfl | hx
      · exact dg _ (by omega) (by omega)
      · rcases List.mem_cons.1 hx with rfl | hx
        · exact dg _ (by omega) (by omega)
        · exact ih (fun z hz => hl z (List.mem_cons_of_mem _ hz)) x hx
  have hk := key ids hA x hx
  have := congrArg UInt8.toNat he
  rw [UInt8.toNat_ofNat'] at this
  have e10 : (10 : UInt8).toNat = 10 := rfl
  omega
theorem wd_no (k : Int) : (10 : UInt8) ∉ (wdF k).data.toList := by
  unfold wdF
  repeat' split
  all_goals decide
theorem tn_no {s : ByteArray} (h : tnF s = true) : (10 : UInt8) ∉ s.data.toList := fun hm => by
  unfold tnF at h
  have h := (Bool.and_eq_true_iff.1 h).2
  have := any_mem [0, 10] s.data.toList (by simpa using h) 10 hm
  simp at this
theorem who_no {s : ByteArray} (h : whoF s = true) : (10 : UInt8) ∉ s.data.toList := fun hm => by
  rw [who_has] at h
  simp only [Bool.and_eq_true, Bool.not_eq_true'] at h
  have := h.1.1.2
  unfold hasF at this
  rw [List.contains_iff_mem.2 hm] at this
  cases this
theorem id_who {i : Idt} (h : idF i = true) : whoF i.nm = true ∧ whoF i.em = true := by
  unfold idF at h
  simp only [Bool.and_eq_true] at h
  exact h.1.1.1.1
theorem zl_no (a : Nat) (h : a ≤ 1439) : (10 : UInt8) ∉ zl a := by
  unfold zl
  simp only [List.mem_cons, List.not_mem_nil, or_false, not_or]
  have key : ∀ d : Nat, d < 10 → (10 : UInt8) ≠ UInt8.ofNat (48 + d) := by
    intro d hd he
    have := congrArg UInt8.toNat he
    rw [UInt8.toNat_ofNat'] at this
    have e10 : (10 : UInt8).toNat = 10 := rfl
    omega
  exact ⟨key _ (by omega), key _ (by omega), key _ (by omega), key _ (by omega)⟩
theorem put_no {i : Idt} (h : idF i = true) : (10 : UInt8) ∉ (putB i).data.toList := by
  have hw := id_who h
  have hb := idF_facts h
  rw [put_list h]
  have h1 := who_no hw.1
  have h2 := who_no hw.2
  have h3 : (10 : UInt8) ∉ Lib.decDigits i.tm.toNat := fun hm => by
    have := dec_mem (i.tm.toNat + 1) i.tm.toNat (by omega) 10 hm
    have e10 : (10 : UInt8).toNat = 10 := rfl
    omega
  have h4 := zl_no i.zn.natAbs (by omega)
  simp only [List.mem_append, List.mem_cons, not_or]
  refine ⟨h1, by decide, by decide, h2, by decide, by decide, h3, by decide, ?_, h4⟩
  split <;> decide
theorem ko_wd {k : Int} (h : isK k = true) : koF (wdF k) = k := by
  unfold isK at h
  simp only [Bool.and_eq_true, decide_eq_true_eq] at h
  have : k = 1 ∨ k = 2 ∨ k = 3 ∨ k = 4 := by omega
  rcases this with rfl | rfl | rfl | rfl <;> rfl
theorem tg_lines {c : LbC} (hok : c.ok) (h : teF c = 0) : LnAt (tgU c) wO (hexU c.tg) (wT ++ 32 :: ((wdF c.k).data.toList ++ 10 :: (wG ++ 32 :: (c.nm.data.toList ++ 10 :: (wR ++ 32 :: ((putB c.ig).data.toList ++ 10 :: (10 :: c.ms.data.toList)))))))
    ∧ LnAt (wT ++ 32 :: ((wdF c.k).data.toList ++ 10 :: (wG ++ 32 :: (c.nm.data.toList ++ 10 :: (wR ++ 32 :: ((putB c.ig).data.toList ++ 10 :: (10 :: c.ms.data.toList))))))) wT (wdF c.k).data.toList (wG ++ 32 :: (c.nm.data.toList ++ 10 :: (wR ++ 32 :: ((putB c.ig).data.toList ++ 10 :: (10 :: c.ms.data.toList)))))
    ∧ LnAt (wG ++ 32 :: (c.nm.data.toList ++ 10 :: (wR ++ 32 :: ((putB c.ig).data.toList ++ 10 :: (10 :: c.ms.data.toList))))) wG c.nm.data.toList (wR ++ 32 :: ((putB c.ig).data.toList ++ 10 :: (10 :: c.ms.data.toList)))
    ∧ LnAt (wR ++ 32 :: ((putB c.ig).data.toList ++ 10 :: (10 :: c.ms.data.toList))) wR (putB c.ig).data.toList (10 :: c.ms.data.toList) := by
  obtain ⟨h1, h2, h3, h4, h5⟩ := teF_ok h
  exact ⟨⟨rfl, hexU_no _ hok.2.1⟩, ⟨rfl, wd_no _⟩, ⟨rfl, tn_no h2⟩, ⟨rfl, put_no h3⟩⟩
theorem back_ba (s : ByteArray) : (⟨s.data.toList.toArray⟩ : ByteArray) = s := rfl
def pcF (a b n d m : List UInt8) : LbC := ⟨Sh.parF ⟨a.toArray⟩, koF ⟨b.toArray⟩, ⟨n.toArray⟩, (prsF ⟨d.toArray⟩).1, ⟨m.toArray⟩⟩
theorem pc_back {c : LbC} (hok : c.ok) (h : teF c = 0) : pcF (hexU c.tg) (wdF c.k).data.toList c.nm.data.toList (putB c.ig).data.toList c.ms.data.toList = c := by
  obtain ⟨h1, h2, h3, h4, h5⟩ := teF_ok h
  unfold pcF hexU
  rw [back_ba, back_ba, back_ba, back_ba, back_ba, Sh.parF_hex hok.1 (fun x hx => hok.2.1 x hx), ko_wd h5, prs_put h3]
theorem rt_back {c : LbC} (hok : c.ok) (h : teF c = 0) : rtF (tgU c) = c := by
  obtain ⟨g1, g2, g3, g4⟩ := tg_lines hok h
  have hp := pc_back hok h
  unfold rtF
  rw [cl_ln g1]
  simp only
  rw [cl_ln g2]
  simp only
  rw [cl_ln g3]
  simp only
  rw [cl_ln g4]
  simp only
  exact hp
theorem tgU_inj {c d : LbC} (hc : c.ok) (h : teF c = 0) (hd : d.ok) (g : teF d = 0) (he : tgU c = tgU d) : c = d := by
  rw [← rt_back hc h, ← rt_back hd g, he]
def DgEnd (xs : List Int) (R : LbC) (E : Int) : Prop :=
  (1048576 < xs.length ∧ R = lb0 ∧ E = 2) ∨ (xs.length ≤ 1048576 ∧ ((R.ok ∧ teF R = 0 ∧ tgU R = (strOfNums xs).data.toList ∧ E = 0) ∨ ((∀ c : LbC, c.ok → teF c = 0 → tgU c ≠ (strOfNums xs).data.toList) ∧ R = lb0 ∧ E = 4)))
theorem dg_one {xs : List Int} {R R' : LbC} {E E' : Int} (h : DgEnd xs R E) (g : DgEnd xs R' E') : R = R' ∧ E = E' := by
  rcases h with ⟨h1, h2, h3⟩ | ⟨h1, h2⟩
  · rcases g with ⟨g1, g2, g3⟩ | ⟨g1, g2⟩
    · exact ⟨h2.trans g2.symm, h3.trans g3.symm⟩
    · omega
  · rcases g with ⟨g1, g2, g3⟩ | ⟨g1, g2⟩
    · omega
    · rcases h2 with ⟨a1, a2, a3, a4⟩ | ⟨a1, a2, a3⟩
      · rcases g2 with ⟨b1, b2, b3, b4⟩ | ⟨b1, b2, b3⟩
        · exact ⟨tgU_inj a1 a2 b1 b2 (a3.trans b3.symm), a4.trans b4.symm⟩
        · exact absurd a3 (b1 R a1 a2)
      · rcases g2 with ⟨b1, b2, b3, b4⟩ | ⟨b1, b2, b3⟩
        · exact absurd b3 (a1 R' b1 b2)
        · exact ⟨a2.trans b2.symm, a3.trans b3.symm⟩
theorem dg_ok {xs : List Int} {R : LbC} {E : Int} (h : DgEnd xs R E) : R.ok := by
  rcases h with ⟨-, rfl, -⟩ | ⟨-, ⟨h, -⟩ | ⟨-, rfl, -⟩⟩
  · exact lb0_ok
  · exact h
  · exact lb0_ok


theorem two_lbs (w : World) : ∃ w0, (w.alloc (.cells lb0.l.toArray 127)).alloc (.cells lb0.l.toArray 127) = w0 ∧ Below w.heap.size w w0 ∧ LbB w0 w.heap.size lb0 ∧ LbB w0 (w.heap.size + 1) lb0 ∧ w0.heap.size = w.heap.size + 2 := by
  refine ⟨_, rfl, ((Below.refl _ _).alloc (Nat.le_refl _) _).alloc (by simp) _, ?_, ?_, by simp⟩
  · have h0 : LbB (w.alloc (.cells lb0.l.toArray 127)) w.heap.size lb0 := heap_alloc_new w _
    exact h0.far ((Below.refl (w.heap.size + 1) _).alloc (by simp) _) (by omega)
  · have := heap_alloc_new (w.alloc (.cells lb0.l.toArray 127)) (.cells lb0.l.toArray 127)
    rwa [show (w.alloc (.cells lb0.l.toArray 127)).heap.size = w.heap.size + 1 by simp] at this
structure LbE (w W : World) (g : Nat) (RL : List Value) : Prop where
  rg : W.rangeAt g 0 RL
  il : (Tryz.prog.info? 127).map (·.size) = some RL.length
  il2 : (Tryz.prog.info? 127).map (·.size) = some RL.toArray.size
  th : W.there w.heap.size 0 RL.toArray.size
  ol : RL.toArray.all (·.oneCell') = true
  fin : (W.setCells w.heap.size 0 RL).heap[w.heap.size]? = some (.cells RL.toArray 127)
  bf : Below w.heap.size w (W.setCells w.heap.size 0 RL)
theorem lb_end {w W : World} {g : Nat} {R : LbC} (hR : R.ok) (hg : LbB W g R) (h0 : LbB W w.heap.size lb0) (hB : Below w.heap.size w W) : LbE w W g R.l := by
  have hil : (Tryz.prog.info? 127).map (·.size) = some R.l.length := by rw [LbC.len hR]; kernel_rfl
  refine ⟨hg.range, hil, by rw [List.size_toArray]; exact hil, h0.there lb0_ok _ (by rw [List.size_toArray, LbC.len hR]; exact Nat.le_refl _), R.all, h0.over lb0_ok hR, Sh.below_cells (Nat.le_refl _) _ _ _ _ hB⟩
theorem dg_yes {xs : List Int} (hl : xs.length ≤ 1048576) {R : LbC} (hok : R.ok) (h0 : teF R = 0) (h : strOfNums (tgL R) = strOfNums xs) : DgEnd xs R 0 :=
  .inr ⟨hl, .inl ⟨hok, h0, by rw [← tgL_U, h], rfl⟩⟩
theorem dg_no {xs : List Int} (hl : xs.length ≤ 1048576) (h : ¬ (teF (rtF (strOfNums xs).data.toList) = 0 ∧ strOfNums (tgL (rtF (strOfNums xs).data.toList)) = strOfNums xs)) : DgEnd xs lb0 4 := by
  refine .inr ⟨hl, .inr ⟨fun c hc h0 he => h ?_, rfl, rfl⟩⟩
  rw [← he, rt_back hc h0]
  refine ⟨h0, ?_⟩
  rw [← tgL_U] at he
  apply ByteArray.ext
  apply Array.ext'
  exact he
theorem rt_ok {t : List UInt8} (h : t.length ≤ 1048576) : (rtF t).ok := by
  have l1 := clF_len t wO
  have l2 := clF_len (clF t wO).2 wT
  have l3 := clF_len (clF (clF t wO).2 wT).2 wG
  have l4 := clF_len (clF (clF (clF t wO).2 wT).2 wG).2 wR
  have l5 := rmF_len (clF (clF (clF (clF t wO).2 wT).2 wG).2 wR).2
  exact mk_ok _ (parF_ok _) (parF_all _) (koF_range _) (by rw [sz_mk]; omega) (by rw [sz_mk]; omega)
set_option maxHeartbeats 2000000 in
set_option maxRecDepth 100000 in
theorem parseL_any (v : Value) (xs : List Int) (w : World) (hgl : Gl w) (hr : Rd .u8 anyB w v xs) :
    Calls Tryz.prog 124 #[v, .func (.func 125) #[] #[], .func (.func 126) #[] #[]] w fun e w' => ∃ R E, e = .returned (.tuple #[.agg R.l.toArray, .int .i64 E]) ∧ DgEnd xs R E ∧ Below w.heap.size w w' := by
  obtain ⟨w0, hw0, hB0, hE0, hE1, hsz0⟩ := two_lbs w
  have KRd := Kept.mk (hr.later hB0 (Nat.le_refl _))
  obtain ⟨a, c, rfl, h1, h2, h3, h4⟩ := hr
  have KGl := Kept.mk (hgl.later hB0)
  have KB0 := Kept.mk hB0
  clear hgl h1 h2 h3 h4
  by_cases hl : 1048576 < xs.length
  · have hli : (1048576 : Int) < (xs.length : Int) := by omega
    have KE : Kept (DgEnd xs lb0 2) := ⟨.inl ⟨hl, rfl, rfl⟩⟩
    have KL := Kept.mk (lb_end lb0_ok hE1 hE0 hB0)
    clear hl hB0 hE0 hE1 hsz0 KB0 KRd KGl
    go_enter Tryz.func124, Tryz.ntmps124
    go_upto_region 2 with fail
    generalize hOb : Obj.cells (_ : Array Value) 127 = Ob
    have hOb2 : Ob = Obj.cells lb0.l.toArray 127 := by subst hOb; rfl
    subst hOb2
    clear hOb
    rw [hw0]
    clear hw0
    obtain ⟨RL, hRL⟩ : ∃ RL, lb0.l = RL := ⟨_, rfl⟩
    have KRL := Kept.mk hRL
    rw [hRL] at KL
    clear hRL
    go_wp2_with (first | (refine wpList_load_mid rfl 127 _ rfl (w.heap.size + 1) 0 rfl RL _ KL.out.rg Tryz.underlying127 rfl KL.out.il ?_) | (refine wpList_store_mid rfl 127 _ _ rfl w.heap.size 0 RL.toArray rfl rfl KL.out.th KL.out.il2 KL.out.ol ?_))
    refine bodyPost_ret (v := .tuple #[.agg RL.toArray, .int .i64 2]) (Sh.results_row2 (p := 6) (u := 7) (ty := 127) Tryz.results124 _ _ w.heap.size 127 _ (0, 0) _ rfl KL.out.fin Tryz.underlying127 rfl KL.out.il2) rfl ⟨lb0, 2, by rw [KRL.out], KE.out, KL.out.bf⟩
  · have hli : ¬ (1048576 : Int) < (xs.length : Int) := by omega
    have Kl : Kept (xs.length ≤ 1048576) := ⟨by omega⟩
    have hcv := KRd.out.str Tryz.underlying27 Tryz.underlying5 9 Tryz.underlying9
    obtain ⟨S, hS⟩ : ∃ S, strOfNums xs = S := ⟨_, rfl⟩
    have KS := Kept.mk hS
    rw [hS] at hcv
    have hSl : S.data.toList.length ≤ 1048576 := by rw [← Lib.size_eq, ← hS, strOfNums_size]; exact Kl.out
    have K1 := Kept.mk (readTag_any S.data.toList w0 KGl.out hSl)
    rw [back_ba] at K1
    have hok := rt_ok hSl
    have KR : Kept (rtF S.data.toList = rtF (strOfNums xs).data.toList) := ⟨by rw [hS]⟩
    generalize rtF S.data.toList = R at *
    have Ks0 : Kept (w.heap.size + 2 ≤ w0.heap.size) := ⟨by omega⟩
    have KE0 := Kept.mk hE0
    have KE1 := Kept.mk hE1
    have Kok := Kept.mk hok
    clear hl hS hSl hB0 hE0 hE1 hsz0 KRd hok
    go_enter Tryz.func124, Tryz.ntmps124
    go_upto_region 2 with fail
    generalize hOb : Obj.cells (_ : Array Value) 127 = Ob
    have hOb2 : Ob = Obj.cells lb0.l.toArray 127 := by subst hOb; rfl
    subst hOb2
    clear hOb
    rw [hw0]
    clear hw0
    go_wp2_with fail
    refine Calls.mono K1.out (fun e w1 hp => ?_)
    obtain ⟨rfl, hb1⟩ := hp
    have KB1 := Kept.mk (KB0.out.trans (hb1.mono KB0.out.size))
    have Ks1 : Kept (w.heap.size + 2 ≤ w1.heap.size) := ⟨Nat.le_trans Ks0.out hb1.size⟩
    have hE0 := KE0.out.far hb1 (by have := Ks0.out; omega)
    have hE1 := KE1.out.far hb1 (by have := Ks0.out; omega)
    obtain ⟨wa, hwa, hBa, hLa⟩ := LbC.box w1 lb0
    have hsza : wa.heap.size = w1.heap.size + 1 := by rw [← hwa]; simp
    obtain ⟨w2, hw2⟩ : ∃ w2, wa.setCells w1.heap.size 0 R.l = w2 := ⟨_, rfl⟩
    have hL2 : LbB w2 w1.heap.size R := by rw [← hw2]; exact hLa.over lb0_ok Kok.out
    have hB2 : Below w1.heap.size w1 w2 := by rw [← hw2]; exact Sh.below_cells (Nat.le_refl _) _ _ _ _ hBa
    have hE02 := hE0.far hB2 (by have := Ks1.out; omega)
    have hE12 := hE1.far hB2 (by have := Ks1.out; omega)
    have KB2 := Kept.mk (KB1.out.trans (hB2.mono KB1.out.size))
    have Ks2 : Kept (w1.heap.size + 1 ≤ w2.heap.size) := ⟨by rw [← hw2, Sh.size_setCells]; omega⟩
    have K2 := Kept.mk (putTag_any R w2 (KGl.out.later (hb1.trans (hB2.mono hb1.size))) Kok.out)
    have KP : Kept (ptgL R = if teF R = 0 then tgL R else []) := ⟨rfl⟩
    have KTh : Kept (wa.there w1.heap.size 0 R.l.toArray.size) := ⟨hLa.there lb0_ok _ (by rw [List.size_toArray, LbC.len Kok.out]; exact Nat.le_refl _)⟩
    have KIl : Kept ((Tryz.prog.info? 127).map (·.size) = some R.l.length) := ⟨by rw [LbC.len Kok.out]; kernel_rfl⟩
    have KIl2 : Kept ((Tryz.prog.info? 127).map (·.size) = some R.l.toArray.size) := ⟨by rw [List.size_toArray]; exact KIl.out⟩
    have KOl := Kept.mk R.all
    have KRg := Kept.mk hL2.range
    have KE0 := Kept.mk hE02
    have KE1 := Kept.mk hE12
    have KL := Kept.mk hL2
    clear hb1 hE0 hE1 hLa hsza hL2 hB2 hE02 hE12 hBa K1
    obtain ⟨RL, hRL⟩ : ∃ RL, R.l = RL := ⟨_, rfl⟩
    have KRL := Kept.mk hRL
    rw [hRL] at K2 KTh KIl KIl2 KOl KRg hw2
    rw [hRL]
    clear hRL
    have Kwa := Kept.mk hwa
    have Kw2 := Kept.mk hw2
    clear hwa hw2
    go_wp2_with (first | (generalize hOb : Obj.cells (_ : Array Value) 127 = Ob; obtain rfl : Ob = Obj.cells lb0.l.toArray 127 := (by subst hOb; rfl); clear hOb; rw [Kwa.out]; refine wpList_store_mid rfl 127 _ _ rfl w1.heap.size 0 RL.toArray rfl rfl KTh.out KIl2.out KOl.out ?_; rw [Kw2.out]) | (refine wpList_load_mid rfl 127 _ rfl w1.heap.size 0 rfl RL _ KRg.out Tryz.underlying127 rfl KIl.out ?_))
    refine Calls.mono K2.out (fun e w3 hp => ?_)
    obtain ⟨av, rfl, hav, hb3⟩ := hp
    have KB3 := Kept.mk (KB2.out.trans (hb3.mono KB2.out.size))
    have KE0 := Kept.mk (KE0.out.far hb3 (by have := Ks2.out; have := Ks1.out; omega))
    have KE1 := Kept.mk (KE1.out.far hb3 (by have := Ks2.out; have := Ks1.out; omega))
    have KL := Kept.mk (KL.out.far hb3 (by have := Ks2.out; omega))
    have hcv2 := (hav.rd).str Tryz.underlying27 Tryz.underlying5 9 Tryz.underlying9
    obtain ⟨S2, hS2⟩ : ∃ S2, strOfNums (ptgL R) = S2 := ⟨_, rfl⟩
    have KS2 := Kept.mk hS2
    rw [hS2] at hcv2
    clear K2 hb3 hav hS2 hcv
    generalize hE : teF R = E at *
    have KEE := Kept.mk hE
    clear hE
    by_cases h0 : E = 0
    · subst h0
      by_cases hs : S2 = S
      · have KE : Kept (DgEnd xs R 0) := ⟨dg_yes Kl.out Kok.out KEE.out (by rw [KS.out, ← hs, ← KS2.out, KP.out, if_pos rfl])⟩
        have KL2 := Kept.mk (lb_end Kok.out KL.out KE0.out KB3.out)
        subst hs
        obtain ⟨RL2, hRL2⟩ : ∃ RL, R.l = RL := ⟨_, rfl⟩
        have KRL2 := Kept.mk hRL2
        rw [hRL2] at KL2
        clear hRL2
        go_wp2_with (first | (refine wpList_load_mid rfl 127 _ rfl w1.heap.size 0 rfl RL2 _ KL2.out.rg Tryz.underlying127 rfl KL2.out.il ?_) | (refine wpList_store_mid rfl 127 _ _ rfl w.heap.size 0 RL2.toArray rfl rfl KL2.out.th KL2.out.il2 KL2.out.ol ?_))
        refine bodyPost_ret (v := .tuple #[.agg RL2.toArray, .int .i64 0]) (Sh.results_row2 (p := 6) (u := 7) (ty := 127) Tryz.results124 _ _ w.heap.size 127 _ (0, 0) _ rfl KL2.out.fin Tryz.underlying127 rfl KL2.out.il2) rfl ⟨_, 0, by rw [← KRL2.out], KE.out, KL2.out.bf⟩
      · have hbl : (S2.toList == S.toList) = false := beq_eq_false_iff_ne.2 fun h => hs (by rcases S2 with ⟨⟨a⟩⟩; rcases S with ⟨⟨b⟩⟩; simp only [Lib.toList_data] at h; rw [h])
        have KE : Kept (DgEnd xs lb0 4) := ⟨dg_no Kl.out fun h => hs (by rw [← KR.out] at h; rw [← KS2.out, KP.out, if_pos rfl, h.2, KS.out])⟩
        have KL2 := Kept.mk (lb_end lb0_ok KE1.out KE0.out KB3.out)
        clear hs
        obtain ⟨RL2, hRL2⟩ : ∃ RL, lb0.l = RL := ⟨_, rfl⟩
        have KRL2 := Kept.mk hRL2
        rw [hRL2] at KL2
        clear hRL2
        go_wp2_with (first | (refine wpList_load_mid rfl 127 _ rfl (w.heap.size + 1) 0 rfl RL2 _ KL2.out.rg Tryz.underlying127 rfl KL2.out.il ?_) | (refine wpList_store_mid rfl 127 _ _ rfl w.heap.size 0 RL2.toArray rfl rfl KL2.out.th KL2.out.il2 KL2.out.ol ?_))
        refine bodyPost_ret (v := .tuple #[.agg RL2.toArray, .int .i64 4]) (Sh.results_row2 (p := 6) (u := 7) (ty := 127) Tryz.results124 _ _ w.heap.size 127 _ (0, 0) _ rfl KL2.out.fin Tryz.underlying127 rfl KL2.out.il2) rfl ⟨_, 4, by rw [← KRL2.out], KE.out, KL2.out.bf⟩
    · have KE : Kept (DgEnd xs lb0 4) := ⟨dg_no Kl.out fun h => h0 (by rw [← KR.out] at h; rw [← KEE.out]; exact h.1)⟩
      have KL2 := Kept.mk (lb_end lb0_ok KE1.out KE0.out KB3.out)
      obtain ⟨RL2, hRL2⟩ : ∃ RL, lb0.l = RL := ⟨_, rfl⟩
      have KRL2 := Kept.mk hRL2
      rw [hRL2] at KL2
      clear hRL2
      go_wp2_with (first | (refine wpList_load_mid rfl 127 _ rfl (w.heap.size + 1) 0 rfl RL2 _ KL2.out.rg Tryz.underlying127 rfl KL2.out.il ?_) | (refine wpList_store_mid rfl 127 _ _ rfl w.heap.size 0 RL2.toArray rfl rfl KL2.out.th KL2.out.il2 KL2.out.ol ?_))
      refine bodyPost_ret (v := .tuple #[.agg RL2.toArray, .int .i64 4]) (Sh.results_row2 (p := 6) (u := 7) (ty := 127) Tryz.results124 _ _ w.heap.size 127 _ (0, 0) _ rfl KL2.out.fin Tryz.underlying127 rfl KL2.out.il2) rfl ⟨_, 4, by rw [← KRL2.out], KE.out, KL2.out.bf⟩
set_option maxHeartbeats 400000 in
set_option maxRecDepth 100000 in
theorem parseTag_any (v : Value) (xs : List Int) (w : World) (hgl : Gl w) (hr : Rd .u8 anyB w v xs) :
    Calls Tryz.prog 101 #[v] w fun e w' => ∃ R E, e = .returned (.tuple #[.agg R.l.toArray, .int .i64 E]) ∧ DgEnd xs R E ∧ Below w.heap.size w w' := by
  have hB0 : Below w.heap.size w (w.alloc (.cells lb0.l.toArray 127)) := (Below.refl _ _).alloc (Nat.le_refl _) _
  have hE0 : LbB (w.alloc (.cells lb0.l.toArray 127)) w.heap.size lb0 := heap_alloc_new w _
  obtain ⟨w0, hw0⟩ : ∃ w0, w.alloc (.cells lb0.l.toArray 127) = w0 := ⟨_, rfl⟩
  rw [hw0] at hB0 hE0
  have K1 := Kept.mk (parseL_any v xs w0 (hgl.later hB0) (hr.later hB0 (Nat.le_refl _)))
  obtain ⟨a, c, rfl, -⟩ := hr
  have KB0 := Kept.mk hB0
  have KE0 := Kept.mk hE0
  have Ks0 := Kept.mk hE0.lt
  clear hgl hB0 hE0
  go_enter Tryz.func101, Tryz.ntmps101
  go_upto_region 1 with fail
  generalize hOb : Obj.cells (_ : Array Value) 127 = Ob
  have hOb2 : Ob = Obj.cells lb0.l.toArray 127 := by subst hOb; rfl
  subst hOb2
  clear hOb
  rw [hw0]
  clear hw0
  go_wp2_with fail
  refine Calls.mono K1.out (fun e w1 hp => ?_)
  obtain ⟨R, E, rfl, hE, hb⟩ := hp
  have KE := Kept.mk hE
  have hok := dg_ok hE
  have hE0 := KE0.out.far hb Ks0.out
  have hB := KB0.out.trans (hb.mono KB0.out.size)
  have hil : (Tryz.prog.info? 127).map (·.size) = some R.l.toArray.size := by rw [List.size_toArray, LbC.len hok]; kernel_rfl
  have KIl2 := Kept.mk hil
  have KTh : Kept (w1.there w.heap.size 0 R.l.toArray.size) := ⟨hE0.there lb0_ok _ (by rw [List.size_toArray, LbC.len hok]; exact Nat.le_refl _)⟩
  have KOl := Kept.mk R.all
  have KFin := Kept.mk (hE0.over lb0_ok hok)
  unfold LbB at KFin
  have KBf := Kept.mk (Sh.below_cells (b := w.heap.size) (Nat.le_refl _) R.l 0 w w1 hB)
  obtain ⟨RL, hRL⟩ : ∃ RL, R.l = RL := ⟨_, rfl⟩
  have KRL := Kept.mk hRL
  rw [hRL] at KIl2 KTh KOl KFin KBf
  rw [hRL]
  clear hRL hE hok hE0 hB hil hb K1 KE0 KB0
  go_wp2_with (first | (refine wpList_store_mid rfl 127 _ _ rfl w.heap.size 0 RL.toArray rfl rfl KTh.out KIl2.out KOl.out ?_))
  refine bodyPost_ret (v := .tuple #[.agg RL.toArray, .int .i64 E]) (Sh.results_row2 (p := 2) (u := 3) (ty := 127) Tryz.results101 _ _ w.heap.size 127 _ (0, 0) _ rfl KFin.out Tryz.underlying127 rfl KIl2.out) rfl ⟨R, E, by rw [KRL.out], KE.out, KBf.out⟩
end Go.Proofs.YtkbalngddlhlpaaGreatDoor
