/-
  Walks: SyncDir.
-/
import Derived.Test.YtegdadkejheagaaDoorFN
namespace Go.Proofs.YtegdadkejheagaaDoor
open Go.RowKit Go.WideMaps

theorem bgS_C (S : St) : (bgS S).C = S.C := by unfold bgS; split <;> rfl
theorem bgS_L (S : St) : (bgS S).L = S.L := by unfold bgS; split <;> rfl
def sdP (s : Ps) (p : ByteArray) : Ps := if bgEP s false [] = 0 then { bgP s with L := (s.C p).foldl apl s.L, C := upd s.C p [] } else bgP s
/-- A change of a row, cell by cell. -/
theorem row_cells {w : World} {g cap : Nat} {l : List Chg} (h : w.ownsRow 0 70 3 (.slice (some ⟨g, 0, none⟩) l.length cap) l.length (l.flatMap Chg.cs)) {k : Nat} (hk : k < l.length) {j : Nat} (hj : j < 3) : w.cell? ⟨g, k * 3 + j, none⟩ = (l[k]'hk).cs[j]? := by
  have hflat : (l.flatMap Chg.cs)[k * 3 + j]? = (l[k]'hk).cs[j]? := by
    clear h
    induction l generalizing k with
    | nil => simp at hk
    | cons c l ih =>
      rw [List.flatMap_cons]
      cases k with
      | zero =>
        rw [Nat.zero_mul, Nat.zero_add, List.getElem?_append_left (by show j < 3; exact hj)]
        rfl
      | succ k =>
        have hl : c.cs.length = 3 := rfl
        rw [List.getElem?_append_right (by rw [hl]; omega), hl, show (k + 1) * 3 + j - 3 = k * 3 + j by omega, ih (k := k) (by simpa using hk)]
        rfl
  have hlt : j < (l[k]'hk).cs.length := hj
  have := World.ownsRow.cells h (g := g) rfl (k * 3 + j) ((l[k]'hk).cs[j]'hlt) (by rw [hflat]; exact List.getElem?_eq_getElem hlt)
  rw [add_plain, Nat.zero_add] at this
  rw [this, List.getElem?_eq_getElem hlt]
theorem Bd.delC {w w' : World} {B : Nat → Prop} {S : St} {n : Nat} (h : Bd w B S n) {p : ByteArray} (hM : MapAt w' S.bp n (upd (rwV S.C) p none)) (hF : Fx (fun i => S.bp = some i) w w') : Bd w' B { S with C := upd S.C p none } n := by
  have hall : (∀ f c, S.F f = some c → FileAt w' B f c) ∧ (∀ q v l, S.C q = some (v, l) → RowC w' B v l ∧ l.length ≤ S.m) ∧ MapAt w' S.bn n (nmV S.N) ∧ MapAt w' S.bl n (nmV S.L) ∧ RefAt w' S.rb n S.R := by
    cases hb : S.bp with
    | some b =>
      have hF1 : Fx (fun i => i = b) w w' := hF.weak (fun i _ e => by rw [hb] at e; injection e with e; exact e.symm)
      have hk := h.kept (h.mC.at hb).isMap hF1.one
      have s := h.sp b
      exact ⟨hk.1, hk.2, h.mN.past (fun e => (s.1 e).2.1 hb) (fun x e => h.bB x (.inl e)) hF1.one (Nat.le_refl _), h.mL.past (fun e => (s.2.1 e).1 hb) (fun x e => h.bB x (.inr (.inl e))) hF1.one (Nat.le_refl _), h.mR.past (s.2.2 hb) (fun x e => h.bB x (.inr (.inr (.inr e)))) hF1.one (Nat.le_refl _)⟩
    | none =>
      have h1 : Bd w' B S n := h.far (fun i hi _ => .inl (hF.block i hi (fun e => by rw [hb] at e; cases e))) (fun _ _ h => h) (Nat.le_refl _)
      exact ⟨h1.fl, h1.rw, h1.mN, h1.mL, h1.mR⟩
  have hC : ∀ q x, upd S.C p none q = some x → q ≠ p ∧ S.C q = some x := fun q x hq => by
    by_cases e : q = p
    · subst e; rw [upd_same] at hq; cases hq
    · rw [upd_other _ _ e] at hq; exact ⟨e, hq⟩
  exact {
    mN := hall.2.2.1, mL := hall.2.2.2.1, mR := hall.2.2.2.2, bB := h.bB, sp := h.sp, nl := h.nl, fl := hall.1, fA := h.fA, nF := h.nF, lF := h.lF
    mC := by
      show MapAt w' S.bp n (rwV (upd S.C p none))
      have e : upd (rwV S.C) p none = rwV (upd S.C p none) := rwV_upd S.C p none
      rw [← e]
      exact hM
    cF := fun q v l x f hq hx hf => h.cF q v l x f (hC q _ hq).2 hx hf
    rw := fun q v l hq => hall.2.1 q v l (hC q _ hq).2
    rA := fun q q' u u' m m' r hne hq hq' hr => h.rA q q' u u' m m' r hne (hC q _ hq).2 (hC q' _ hq').2 hr
    kz := fun q hq => by
      rcases hq with h' | h' | h'
      · exact h.kz q (.inl h')
      · exact h.kz q (.inr (.inl h'))
      · refine h.kz q (.inr (.inr (fun e => h' ?_)))
        show upd S.C p none q = none
        unfold upd
        split
        · rfl
        · exact e }
theorem Dk.delC {w w' : World} {B : Nat → Prop} {d n : Nat} {S : St} (h : Dk w B d S n) {p : ByteArray} (hM : MapAt w' S.bp n (upd (rwV S.C) p none)) (hF : Fx (fun i => S.bp = some i) w w') : Dk w' B d { S with C := upd S.C p none } n :=
  ⟨h.blk.far (hF.block d h.blk.lt (fun e => by
    have hm := h.bd.mC.at e
    exact hm.notBk h.blk)), h.inB, h.bd.delC hM hF⟩
theorem ps_delC (S : St) (p : ByteArray) : St.ps { S with C := upd S.C p none } = { S.ps with C := upd S.ps.C p [] } := by
  have e : (fun q => ((upd S.C p none q).map Prod.snd).getD []) = upd (fun q => ((S.C q).map Prod.snd).getD []) p [] := by
    funext q
    by_cases h : q = p
    · subst h; simp [upd_same]
    · simp [upd_other _ _ h]
  unfold St.ps
  simp only [e]
set_option maxRecDepth 100000 in
set_option maxHeartbeats 4000000 in
theorem syncDir_any (p : ByteArray) {w : World} {B : Nat → Prop} {d n : Nat} {S : St} (h : Dk w B d S n) (hg : Gl w) (hc0 : 0 ≤ S.count) (hc1 : S.count < 1000000) (hgd : 3 ≤ d) (hn : n < 900000) (hm : S.m < 1000) (hps : p.size ≤ maxLen) :
    Calls Tryd.prog 13 #[.pointer (some ⟨d, 0, none⟩), .string p] w fun e w' => e = .returned (.int .i64 (bgEP S.ps false [])) ∧ ∃ S', Dk w' (Gr B w) d S' (n + S.m) ∧ S'.ps = sdP S.ps p ∧ Fx B w w' ∧ S'.m = S.m := by
  have KBg := Kept.mk (begin_any false (.slice none 0 0) [] h hg ⟨none, 0, rfl, Nat.le_refl _, fun h => by simp at h⟩ (by simp) (fun b off k c e => by injection e with e; cases e) hc0 hc1 hgd)
  have KD := Kept.mk h
  have KE : Kept (bgEP S.ps false [] = bgE S false []) := ⟨rfl⟩
  have KP : Kept (sdP S.ps p = if bgE S false [] = 0 then { bgP S.ps with L := (rowL S p).foldl apl S.L, C := upd S.ps.C p [] } else bgP S.ps) := ⟨rfl⟩
  obtain ⟨E, hE⟩ : ∃ E, bgE S false [] = E := ⟨_, rfl⟩
  rw [hE] at KBg KE KP
  clear h hg hE
  go_enter Tryd.func13, Tryd.ntmps13
  go_wp2_with fail
  refine Calls.mono KBg.out (fun x w2 hq => ?_)
  obtain ⟨rfl, hd2, hf2⟩ := hq
  have KD2 := Kept.mk hd2
  have KF2 : Kept (Fx B w w2) := ⟨hf2.weak (fun i _ e => by subst e; exact KD.out.inB)⟩
  clear hd2 hf2 KBg
  by_cases h0 : E = 0
  · subst h0
    have hlk0 := KD2.out.bd.mC.look Tryd.underlying54 (zero_row w2) (s := p) hps
    have q4 := KD2.out.pending
    have hrow := KD2.out.bd.rowAt p
    have hlk : (Instr.lookup 54 (.map (bgS S).bp) (.string p) false).run Tryd.prog w2 = .ok (rowV (bgS S) p) w2 := hlk0
    clear hlk0
    have KLr : Kept (rowL (bgS S) p = rowL S p) := ⟨by unfold rowL; rw [bgS_C]⟩
    obtain ⟨l, hl⟩ : ∃ l, rowL (bgS S) p = l := ⟨_, rfl⟩
    obtain ⟨a, cp, hv⟩ : ∃ a c, rowV (bgS S) p = .slice a l.length c := by
      rcases hrow.1.2 with ⟨h1, h2⟩ | ⟨g, cap, cur, h1, -⟩
      · exact ⟨none, 0, by rw [h1, ← hl, h2]⟩
      · exact ⟨_, _, by rw [h1, hl]⟩
    rw [hv] at hlk
    have Kl := Kept.mk hl
    have Kv := Kept.mk hv
    have Klm : Kept (l.length ≤ S.m) := ⟨by have := hrow.2.1; rw [hl, bgS_m] at this; exact this⟩
    have KH := Kept.mk hrow
    have KP2 : Kept (sdP S.ps p = { bgP S.ps with L := l.foldl apl S.L, C := upd S.ps.C p [] }) := ⟨by rw [KP.out, if_pos rfl, ← hl, KLr.out]⟩
    clear hrow hl hv
    have KD3 : Kept (Dk w2 (Gr B w) d { bgS S with L := (l.take 0).foldl apl (bgS S).L } (n + 0)) := ⟨KD2.out.weak (fun i _ h => .inl h) (Nat.le_refl _)⟩
    have hli : (l.length : Int) ≤ 1000 := by have := Klm.out; omega
    go_wp2
    go_loopw [7, 20] (fun _ kv wr => ∃ k : Nat, k ≤ l.length ∧ kv = .int .i64 k ∧ Dk wr (Gr B w) d { bgS S with L := (l.take k).foldl apl (bgS S).L } (n + k) ∧ Fx B w wr) (fun _ kv _ => l.length - (intOf kv).toNat)
    case atStart => exact ⟨0, Nat.zero_le _, rfl, KD3.out, KF2.out⟩
    case round =>
      obtain ⟨k, hk, rfl, hdr, hfr⟩ := hrel
      have KDr := Kept.mk hdr
      have KFr := Kept.mk hfr
      by_cases hlt : k < l.length
      · have hki : (k : Int) < (l.length : Int) := by omega
        have hrow := hdr.bd.rowAt p
        have eV : rowV { bgS S with L := (l.take k).foldl apl (bgS S).L } p = .slice a l.length cp := Kv.out
        have eL : rowL { bgS S with L := (l.take k).foldl apl (bgS S).L } p = l := Kl.out
        rw [eV, eL] at hrow
        obtain ⟨hown, -, hC⟩ := hrow
        have hC : (bgS S).C p = some (.slice a l.length cp, l) := by
          rcases hC with hC | ⟨-, -, hC⟩
          · exact hC
          · rw [hC] at hlt; simp at hlt
        obtain ⟨g, rfl⟩ : ∃ g, a = some ⟨g, 0, none⟩ := by
          rcases hown.2 with ⟨h1, h2⟩ | ⟨g, cap, cur, h1, -⟩
          · rw [h2] at hlt; simp at hlt
          · injection h1 with h1; exact ⟨g, h1⟩
        obtain ⟨c, hc⟩ : ∃ c, l[k]'hlt = c := ⟨_, rfl⟩
        have hcm : c ∈ l := by rw [← hc]; exact List.getElem_mem hlt
        have Kc := Kept.mk hc
        have Kok := Kept.mk ((hdr.bd.rw p _ l hC).1.ok c hcm)
        have Kex : Kept (∀ f, c.file = some f → ∃ e, (bgS S).F f = some e) := ⟨fun f hf => hdr.bd.cF p _ l c f hC hcm hf⟩
        have c0 := row_cells hown hlt (j := 0) (by decide)
        have c1 := row_cells hown hlt (j := 1) (by decide)
        have c2 := row_cells hown hlt (j := 2) (by decide)
        rw [hc] at c0 c1 c2
        have d0 : wr.cell? ⟨g, k * 3, none⟩ = some (.string c.gone) := c0
        have d1 : wr.cell? ⟨g, k * 3 + 1, none⟩ = some (.string c.made) := c1
        obtain ⟨fo, hfo⟩ : ∃ fo, c.file.map (fun b => (⟨b, 0, none⟩ : Addr)) = fo := ⟨_, rfl⟩
        have d2 : wr.cell? ⟨g, k * 3 + 2, none⟩ = some (.pointer fo) := by rw [← hfo]; exact c2
        obtain ⟨cg, hcg⟩ : ∃ cg, c.gone = cg := ⟨_, rfl⟩
        obtain ⟨cm, hcm2⟩ : ∃ cm, c.made = cm := ⟨_, rfl⟩
        rw [hcg] at d0
        rw [hcm2] at d1
        have KV : Kept (c.v = .agg #[.string cg, .string cm, .pointer fo] ∧ c.cs = [.string cg, .string cm, .pointer fo]) := ⟨by rw [← hcg, ← hcm2, ← hfo]; exact ⟨rfl, rfl⟩⟩
        have Kbl : Kept (∃ b, (bgS S).bl = some b) := ⟨by
          cases hx : (bgS S).bl with
          | some b => exact ⟨b, rfl⟩
          | none =>
            exfalso
            have hbn := KD2.out.bd.nl.1.2 hx
            have hbp := KD2.out.bd.nl.2.1 hbn
            have hm0 := KD2.out.bd.mC
            rw [hbp] at hm0
            have := hm0 p
            unfold rwV at this
            rw [hC] at this
            cases this⟩
        clear c0 c1 c2 hfo hcg hcm2
        clear hown hC hdr hfr eV eL hcm hc hlk q4
        go_upto_region 7 with fail
        obtain ⟨w3, hw3⟩ : ∃ w3, wr.alloc (.cells #[.string cg, .string cm, .pointer fo] 70) = w3 := ⟨_, rfl⟩
        have hb3 : Below wr.heap.size wr w3 := by rw [← hw3]; exact (Below.refl _ _).alloc (Nat.le_refl _) _
        have hB3 : Bk w3 wr.heap.size 70 [.string cg, .string cm, .pointer fo] := by rw [← hw3]; exact Bk.new wr _ _
        rw [hw3]
        have KD3' := Kept.mk (KDr.out.later hb3)
        have KF3 : Kept (Fx B w w3) := ⟨KFr.out.trans (Fx.ofBelow (S := fun _ => False) hb3 (Nat.le_refl _)) (fun _ _ h => h.elim)⟩
        have KB3 := Kept.mk hB3
        obtain ⟨bl, hbl⟩ := Kbl.out
        have KBl := Kept.mk hbl
        clear hw3 hb3 hB3 d0 d1 d2 hbl
        refine wp_region_last _ 5 (by kernel_rfl) (by kernel_rfl) rfl rfl ?_
        simp only [List.take_succ_cons, List.take_zero]
        refine BigFrame.wpQuiet_want rfl (fun K hK => quiet_load_mid 70 _ rfl wr.heap.size 0 rfl [.string cg, .string cm, .pointer fo] _ (fun W hW => by
          obtain ⟨k, rfl⟩ := hW
          exact KB3.out.range) Tryd.underlying70 rfl sizeC (hK _ ?_))
        clear hK K
        simp only [Act.put, List.setIfInBounds_toArray, List.set_cons_zero, List.set_cons_succ]
        have q3a := KD3'.out.lasting
        have q3 : w3.cell? ⟨d, 3, none⟩ = some (.map (some bl)) := by rw [q3a]; show some (Value.map (bgS S).bl) = _; rw [KBl.out]
        clear q3a
        repeat (go_big_quiet_step ((intro _; rfl)))
        refine wpQuiet_nil ?_
        intro kk
        obtain ⟨w4, hw4⟩ : ∃ w4, w3.drewN kk = w4 := ⟨_, rfl⟩
        rw [hw4]
        have hb4 : Below w3.heap.size w3 w4 := hw4 ▸ below_drewN (Below.refl _ _) kk
        have KD4 := Kept.mk (KD3'.out.later hb4)
        have KF4 : Kept (Fx B w w4) := ⟨KF3.out.trans (Fx.ofBelow (S := fun _ => False) hb4 (Nat.le_refl _)) (fun _ _ h => h.elim)⟩
        have KAp := Kept.mk (apply_any c bl (n + k) ((l.take k).foldl apl (bgS S).L) w4 Kok.out (KD4.out.bd.mL.at KBl.out) (by have := Klm.out; omega))
        rw [KV.out.1] at KAp
        clear hw4 hb4 q3
        go_simp
        refine Calls.mono KAp.out (fun x w5 hq => ?_)
        obtain ⟨rfl, hM, hF⟩ := hq
        have KD5 := Kept.mk (KD4.out.lasted KBl.out Kok.out Kex.out hM hF)
        have KF5 : Kept (Fx B w w5) := ⟨KF4.out.trans hF (fun i hi e => by
          rcases KD4.out.bd.bB bl (.inr (.inl KBl.out)) with h | h
          · rw [e]; exact h
          · omega)⟩
        have KTk : Kept ((l.take (k + 1)).foldl apl (bgS S).L = apl ((l.take k).foldl apl (bgS S).L) c) := ⟨by
          rw [List.take_add_one, List.getElem?_eq_getElem hlt, Kc.out, List.foldl_append]
          rfl⟩
        clear hM hF KAp
        go_wp2
        go_roundw
        case rel => exact ⟨k + 1, hlt, by go_num, by rw [KTk.out]; exact KD5.out, KF5.out⟩
        case measure => simp [intOf]; omega
      · have hki : ¬ (k : Int) < (l.length : Int) := by omega
        obtain rfl : k = l.length := by omega
        rw [List.take_length] at KDr
        have q5 := KDr.out.pending
        clear hdr hfr hlk q4
        go_upto_region 10 with (at_delete; refine wpList_del _ rfl _ _ 54 68 rfl Tryd.underlying54 (bgS S).bp (n + l.length) (rwV (bgS S).C) rfl KDr.out.bd.mC p hps rfl ?_; intro w5 hM5 hF5; have KD5 := Kept.mk (KDr.out.delC hM5 hF5); have KF5 : Kept (Fx B w w5) := ⟨KFr.out.trans hF5 (fun i hi e => by rcases KDr.out.bd.bB i (.inr (.inr (.inl e))) with h | h <;> first | exact h | omega)⟩; clear hM5 hF5)
        simp only [Act.put]
        go_wp2
        go_ret
        refine ⟨by rw [KE.out]; rfl, _, KD5.out.weak (fun _ _ h => h) (by have := Klm.out; omega), ?_, KF5.out, bgS_m S⟩
        refine (ps_delC { bgS S with L := l.foldl apl (bgS S).L } p).trans ?_
        rw [KP2.out]
        show { St.ps (bgS S) with L := l.foldl apl (bgS S).L, C := upd (St.ps (bgS S)).C p [] } = _
        rw [bgS_L, bgS_ps, bgP_C]
  · have hb : (E == 0) = false := by simpa using h0
    have KP2 : Kept (sdP S.ps p = bgP S.ps) := ⟨by rw [KP.out, if_neg h0]⟩
    go_wp2
    go_ret
    exact ⟨by rw [KE.out]; rfl, bgS S, KD2.out.weak (fun i _ h => .inl h) (by omega), by rw [KP2.out]; exact bgS_ps S, KF2.out, bgS_m S⟩
end Go.Proofs.YtegdadkejheagaaDoor
