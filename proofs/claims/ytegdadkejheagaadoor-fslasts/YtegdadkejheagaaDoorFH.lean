/-
  Walks: note.
-/
import Derived.Test.YtegdadkejheagaaDoorFG
import Derived.Deep.MidRow
namespace Go.Proofs.YtegdadkejheagaaDoor
open Go.RowKit Go.WideMaps

theorem quiet_load_mid {P : Program} {C : World → Prop} {K : Act → Prop} {o : Oper} {a : Act} (ty : TypeId) (x : Operand) (ho : o.op = .load ty x)
    (b off : Nat) (hx : a.eval x = .pointer (some ⟨b, off, none⟩)) (cs : List Value) (d : TypeDesc) (hc : ∀ w, C w → w.rangeAt b off cs)
    (hu : P.underlying ty = some d) (hd : d.isRow = true) (hi : (P.info? ty).map (·.size) = some cs.length) (hk : K (a.put o.dst (.agg cs.toArray))) : o.quiet P a C K :=
  quiet_run (fun w hw => by
    unfold execOp
    simp only [ho, hx, Instr.loadAt, Instr.sureAddr, Sem.run_bind, Sem.run_pure, Result.andThen_ok, run_loadVar_mid w b off ty cs d (hc w hw) hu hd hi]) hk
theorem wpAnyH_takeD {P : Program} {md : Region.Mode} {ops : Array Oper} {Q : Exit → Act → World → Prop} {S : World → Prop} {i : Nat} {oi : Oper} {d : Option Tmp} {v : Value} {fuel : Nat} {listed : Array Bool} {a : Act} {w : World} (hi : ops[i]? = some oi) (hd : oi.dst = d)
    (hs : Region.noSelect ops = true) (hf : Region.free md ops listed i = true) (hr : (Region.ready md ops listed).contains i = true)
    (hQ : ∀ c a w, Q (.panic c) (a.put oi.dst v) w → Q (.panic c) a w) (hy : YieldsIf P ops S oi v a) (hS : S w)
    (h : wpAnyH P md ops Q S fuel (listed.setIfInBounds i true) (a.put d v) w) : wpAnyH P md ops Q S (fuel + 1) listed a w := by
  subst hd
  exact wpAnyH_take hi hs hf hr hQ hy hS h
set_option maxRecDepth 100000 in
theorem infoC : ∃ i z, Tryd.prog.info? 70 = some i ∧ i.zero = some z ∧ i.size = 3 ∧ i.bytes = 40 ∧ z.cells.size = 3 := ⟨_, _, rfl, rfl, rfl, rfl, rfl⟩
theorem Chg.ones (c : Chg) : ∀ u ∈ c.cs, u.oneCell' = true := by
  intro u hu
  unfold Chg.cs ptrV at hu
  simp only [List.mem_cons, List.not_mem_nil, or_false] at hu
  rcases hu with rfl | rfl | rfl <;> rfl
section
variable {o : Oper} {a : Act} {w : World} {K : Act → World → Prop} {Q : Exit → Act → World → Prop}
set_option maxRecDepth 100000 in
/-- append of one change that lies in a block of its own. -/
theorem wp_append_C (s x : Operand) (ho : o.op = .call { callee := .builtin .append, args := #[s, x], argTypes := #[68, 68] })
    (v : Value) (l : List Chg) (hsv : a.eval s = v) (hown : w.ownsRow 0 70 3 v l.length (l.flatMap Chg.cs)) (c : Chg) (g k : Nat) (hx : a.eval x = .slice (some ⟨g, 0, none⟩) 1 k) (hblk : Bk w g 70 c.cs) (hl : l.length ≤ 1000)
    (h : ∀ v' w', w'.ownsRow 0 70 3 v' (l ++ [c]).length ((l ++ [c]).flatMap Chg.cs) → w.grownBy w' v.ownBlock → (v'.ownBlock = v.ownBlock ∨ v'.ownBlock = some w.heap.size) → K (a.put o.dst v') w') : o.wp Tryd.prog a w K Q := by
  obtain ⟨i, z, hi, hz, hs, hb0, hc⟩ := infoC
  have hcell : ∀ j u, c.cs[j]? = some u → w.cell? ((⟨g, 0, none⟩ : Addr).add j) = some u := fun j u hu => by
    rw [add_plain, Nat.zero_add]
    exact hblk.cell j u hu
  obtain ⟨v', w', hr, h2, h3, -, h5⟩ := run_append_own_at (P := Tryd.prog) w 0 68 o.type 70 i z 3 40 Tryd.underlying68 hi hz hs hb0 hc (by decide) v _ _ hown ⟨g, 0, none⟩ 1 k c.cs rfl hcell (Chg.ones c) (by unfold maxLen; omega) (by omega) (Nat.zero_le _)
  unfold Oper.wp execOp
  simp only [ho, resolve, invoke, builtin, Sem.run_bind, Sem.run_pure, Result.andThen_ok, List.map_toArray, List.map_cons, List.map_nil, hsv, hx, hr]
  refine h v' w' ?_ h3 h5
  rw [List.flatMap_append, List.length_append]
  simpa using h2
set_option maxRecDepth 100000 in
/-- A store at a text. -/
theorem wp_put (m x v : Operand) (t e : TypeId) (hop : o.op = Op.mapUpdate t m x v) (ht : Tryd.prog.underlying t = some (.map 9 e)) (b n : Nat) (f : ByteArray → Option Value)
    (hm : a.eval m = .map (some b)) (hown : MapAt w (some b) n f) (hn : n < maxLen) (s : ByteArray) (hs : s.size ≤ maxLen) (u : Value) (hx : a.eval x = .string s) (hv : a.eval v = u)
    (hK : ∀ w', MapAt w' (some b) (n + 1) (upd f s (some u)) → Fx (fun i => i = b) w w' → K (a.put o.dst undef) w') : o.wp Tryd.prog a w K Q := by
  obtain ⟨D, h1, h2⟩ := hown
  obtain ⟨w', hrun, r1, r2⟩ := h1.store keyed_str ht hn (key_str hs) (show heldR u = some (.held u, []) from rfl)
  unfold Oper.wp
  simp [execOp, hop, hm, hx, hv, hrun, Result.andThen]
  exact hK _ ⟨_, r1, h2.put hs u⟩ ((Fx.grown r2.grown).weak (fun i _ h => by injection h with h; exact h.symm))
end
theorem Dk.weak {w : World} {B B' : Nat → Prop} {d n m : Nat} {S : St} (h : Dk w B d S n) (hB : ∀ i, i < w.heap.size → B i → B' i) (hn : n ≤ m) : Dk w B' d S m := h.far (fun _ _ _ => rfl) hB hn
set_option maxRecDepth 100000 in
theorem sclone_any (s : ByteArray) (w : World) (hs : s.size ≤ 281474976710656) : Calls Tryd.prog 39 #[.string s] w fun e w' => e = .returned (.string s) ∧ Below w.heap.size w w' := by
  have KC := Kept.mk (Tryd.stringslite_Clone s w hs)
  go_enter Tryd.func39, Tryd.ntmps39
  go_wp2_with fail
  refine Calls.mono KC.out (fun x w1 hp => ?_)
  obtain ⟨rfl, hb⟩ := hp
  have KB := Kept.mk hb
  clear hb KC
  go_wp2
  go_ret
  exact ⟨rfl, KB.out⟩
theorem rwV_get (C : ByteArray → Option (Value × List Chg)) (p : ByteArray) : ((rwV C) p).getD (.slice none 0 0) = ((C p).map Prod.fst).getD (.slice none 0 0) := rfl
def rowV (S : St) (q : ByteArray) : Value := ((S.C q).map Prod.fst).getD (.slice none 0 0)
def rowL (S : St) (q : ByteArray) : List Chg := ((S.C q).map Prod.snd).getD []
theorem Bd.rowAt {w : World} {B : Nat → Prop} {S : St} {n : Nat} (h : Bd w B S n) (q : ByteArray) : w.ownsRow 0 70 3 (rowV S q) (rowL S q).length ((rowL S q).flatMap Chg.cs) ∧ (rowL S q).length ≤ S.m ∧ (S.C q = some (rowV S q, rowL S q) ∨ (S.C q = none ∧ rowV S q = .slice none 0 0 ∧ rowL S q = [])) := by
  unfold rowV rowL
  cases hx : S.C q with
  | none => exact ⟨World.ownsRow_nil w 0 _ 3, Nat.zero_le _, .inr ⟨rfl, rfl, rfl⟩⟩
  | some x =>
    obtain ⟨v, l⟩ := x
    exact ⟨(h.rw q v l hx).1.own, (h.rw q v l hx).2, .inl rfl⟩
theorem Dk.noted {w w9 w10 : World} {B : Nat → Prop} {d n b : Nat} {S : St} (h : Dk w B d S n) (hb : S.bp = some b) {q : ByteArray} (hq : q.size ≤ 200) {c : Chg} (hc : c.Ok) (hex : ∀ f, c.file = some f → ∃ e, S.F f = some e) (hsz : w.heap.size ≤ w9.heap.size)
    (hk : ∀ i, i < w.heap.size → (rowV S q).ownBlock ≠ some i → w9.heap[i]? = w.heap[i]?) {v1 : Value} (hrow : w9.ownsRow 0 70 3 v1 (rowL S q ++ [c]).length ((rowL S q ++ [c]).flatMap Chg.cs)) (hvb : v1.ownBlock = (rowV S q).ownBlock ∨ ∃ g, v1.ownBlock = some g ∧ w.heap.size ≤ g)
    (hM : MapAt w10 (some b) (n + 1) (upd (rwV S.C) q (some v1))) (hF : Fx (fun i => i = b) w9 w10) : Dk w10 (Gr B w) d { S with C := upd S.C q (some (v1, rowL S q ++ [c])), m := S.m + 1 } (n + 1) := by
  obtain ⟨hr, -, hv⟩ := h.bd.rowAt q
  refine ⟨?_, .inl h.inB, h.bd.setC hb hq hv hc hex hsz hk hrow hvb hM hF⟩
  refine h.blk.far ?_
  have hbm := (h.bd.mC.at hb)
  rw [hF.block d (by have := h.blk.lt; omega) (fun e => by subst e; exact hbm.notBk h.blk)]
  refine hk d h.blk.lt (fun e => ?_)
  obtain ⟨cur, hcur⟩ := ownsRow_blk hr e
  exact type_ne h.blk hcur (by decide) rfl
def noteP (s : Ps) (p : ByteArray) (c : Chg) : Ps := { s with N := apl s.N c, C := upd s.C (folF p) (s.C (folF p) ++ [c]) }
theorem ps_noted {S S2 : St} (hps : S2.ps = S.ps) (p : ByteArray) (c : Chg) (v1 : Value) (l : List Chg) (hl : l = rowL S2 (folF p)) : { S2 with N := apl S2.N c, C := upd S2.C (folF p) (some (v1, l ++ [c])), m := S2.m + 1 }.ps = noteP S.ps p c := by
  rw [← hps]
  subst hl
  unfold noteP St.ps
  congr 1
  funext x
  by_cases e : x = folF p
  · subst e
    simp only [upd_same, Option.map_some, Option.getD_some]
    rfl
  · simp only [upd_other _ _ e]
set_option maxRecDepth 100000 in
theorem sizeC : (Tryd.prog.info? 70).map (·.size) = some 3 := by kernel_rfl
set_option maxRecDepth 100000 in
set_option maxHeartbeats 2000000 in
theorem note_any (p : ByteArray) (c : Chg) {w : World} {B : Nat → Prop} {d n : Nat} {S : St} (h : Dk w B d S n) (hp : p.size ≤ 200) (hc : c.Ok) (hex : ∀ f, c.file = some f → ∃ e, S.F f = some e) (hn : n < 900000) (hm : S.m < 1000) :
    Calls Tryd.prog 38 #[.pointer (some ⟨d, 0, none⟩), .string p, c.v] w fun e w' => e = .returned (.tuple #[]) ∧ ∃ S', Dk w' (Gr B w) d S' (n + 2) ∧ S'.ps = noteP S.ps p c ∧ S'.F = S.F ∧ Fx B w w' ∧ S'.m = S.m + 1 := by
  obtain ⟨w1, hw1⟩ : ∃ w1, w.alloc (.cells #[.string c.gone, .string c.made, ptrV c.file] 70) = w1 := ⟨_, rfl⟩
  have hB1 : Bk w1 w.heap.size 70 c.cs := by rw [← hw1]; exact Bk.new w _ _
  have hF1 : Below w.heap.size w w1 := by rw [← hw1]; exact (Below.refl _ _).alloc (Nat.le_refl _) _
  have KLt : Kept (∀ q g, (rowV S q).ownBlock = some g → g < w.heap.size) := ⟨fun q g hg => ownsRow_lt (h.bd.rowAt q).1 hg⟩
  have KD1 := Kept.mk (h.later hF1)
  have KLy := Kept.mk (lay_any (h.later hF1))
  have KB1 := Kept.mk hB1
  have KF1 := Kept.mk hF1
  have Kdlt := Kept.mk h.blk.lt
  have KBd := Kept.mk h.inB
  have Khp := Kept.mk hp
  have KC := Kept.mk hc
  have KX := Kept.mk hex
  clear h hc hex hB1 hF1
  unfold Chg.v
  have KEq : Kept (c.cs = [.string c.gone, .string c.made, ptrV c.file]) := ⟨rfl⟩
  have KV : Kept (c.v = .agg #[.string c.gone, .string c.made, ptrV c.file]) := ⟨rfl⟩
  obtain ⟨g, hgv⟩ : ∃ g, c.gone = g := ⟨_, rfl⟩
  obtain ⟨m, hmv⟩ : ∃ m, c.made = m := ⟨_, rfl⟩
  obtain ⟨fv, hfv⟩ : ∃ fv, ptrV c.file = fv := ⟨_, rfl⟩
  rw [hgv, hmv, hfv] at KEq KV hw1 ⊢
  clear hgv hmv hfv
  go_enter Tryd.func38, Tryd.ntmps38
  go_upto_region 1 with fail
  clear hw1
  go_wp2_with fail
  refine Calls.mono KLy.out (fun x w2 hq => ?_)
  obtain ⟨rfl, S2, hd2, hps, hbn, hSF, hSC, hf2, hSm⟩ := hq
  have KSm := Kept.mk hSm
  have KD2 : Kept (Dk w2 (Gr B w) d S2 n) := ⟨hd2.weak (fun i _ h => h.elim .inl (fun h => .inr (Nat.le_trans KF1.out.size h))) (Nat.le_refl _)⟩
  have KB2 : Kept (Bk w2 w.heap.size 70 c.cs) := ⟨KB1.out.far (hf2.block _ KB1.out.lt (fun e => by have := Kdlt.out; omega))⟩
  have KF2 : Kept (Fx B w w2) := ⟨(Fx.ofBelow (S := B) KF1.out (Nat.le_refl _)).trans hf2 (fun i _ e => by subst e; exact KBd.out)⟩
  have KPs := Kept.mk hps
  have KSF := Kept.mk hSF
  have KSC := Kept.mk hSC
  obtain ⟨bn, hbn'⟩ : ∃ bn, S2.bn = some bn := by
    cases hx : S2.bn with
    | none => exact absurd hx hbn
    | some b => exact ⟨b, rfl⟩
  have KBn := Kept.mk hbn'
  clear hd2 hf2 hps hSF hSC hSm hbn hbn' KLy KD1 KB1
  go_upto_region 2 with fail
  refine wp_region_last _ 5 (by kernel_rfl) (by kernel_rfl) rfl rfl ?_
  simp only [List.take_succ_cons, List.take_zero]
  refine BigFrame.wpQuiet_want rfl (fun K hK => quiet_load_mid 70 _ rfl w.heap.size 0 rfl [.string g, .string m, fv] _ (fun W hW => by
    obtain ⟨k, rfl⟩ := hW
    have := KB2.out.range
    rw [KEq.out] at this
    exact this) Tryd.underlying70 rfl sizeC (hK _ ?_))
  clear hK K
  simp only [Act.put, List.setIfInBounds_toArray, List.set_cons_zero, List.set_cons_succ]
  have c2 := KD2.out.names
  rw [KBn.out] at c2
  repeat (go_big_quiet_step ((intro _; rfl)))
  refine wpQuiet_nil ?_
  intro k
  obtain ⟨w3, hw3⟩ : ∃ w3, w2.drewN k = w3 := ⟨_, rfl⟩
  rw [hw3]
  have hb23 : Below w2.heap.size w2 w3 := hw3 ▸ below_drewN (Below.refl _ _) k
  have KD3 := Kept.mk (KD2.out.later hb23)
  have KB3 : Kept (Bk w3 w.heap.size 70 c.cs) := ⟨KB2.out.far (hb23.block _ KB2.out.lt)⟩
  have KF3 : Kept (Fx B w w3) := ⟨KF2.out.trans (Fx.ofBelow (S := fun _ => False) hb23 (Nat.le_refl _)) (fun _ _ h => h.elim)⟩
  have KAp := Kept.mk (apply_any c bn n S2.N w3 KC.out (KD3.out.bd.mN.at KBn.out) (by omega))
  rw [KV.out] at KAp
  clear hw3 hb23 KD2 KB2 KF2 c2
  go_simp
  refine Calls.mono KAp.out (fun x w4 hq => ?_)
  obtain ⟨rfl, hM, hF⟩ := hq
  have hX2 : ∀ f, c.file = some f → ∃ e, S2.F f = some e := by rw [KSF.out]; exact KX.out
  have KD4 := Kept.mk (KD3.out.applied KBn.out KC.out hX2 hM hF)
  have KB4 : Kept (Bk w4 w.heap.size 70 c.cs) := ⟨KB3.out.far (hF.block _ KB3.out.lt (fun e => by
    have hm := KD3.out.bd.mN.at KBn.out
    rw [← e] at hm
    exact hm.notBk KB3.out))⟩
  have KF4 : Kept (Fx B w w4) := ⟨KF3.out.trans hF (fun i hi e => by
    rcases KD3.out.bd.bB bn (.inl KBn.out) with h | h
    · rw [e]; exact h
    · omega)⟩
  clear hM hF hX2 KAp KD3 KB3 KF3
  have KFo := Kept.mk (folderOf_any p w4 Khp.out)
  have KFs := folF_le Khp.out
  obtain ⟨q, hq⟩ : ∃ q, folF p = q := ⟨_, rfl⟩
  have KQ := Kept.mk hq
  rw [hq] at KFo KFs
  clear hq
  have KCl := Kept.mk (sclone_any q w4 (by omega))
  go_wp2_with fail
  refine Calls.mono KFo.out (fun x w5 hp5 => ?_)
  obtain ⟨rfl, hw5⟩ := hp5
  subst hw5
  go_wp2_with fail
  refine Calls.mono KCl.out (fun x w6 hp6 => ?_)
  obtain ⟨rfl, hb6⟩ := hp6
  have KD6 := Kept.mk (KD4.out.later hb6)
  have KB6 : Kept (Bk w6 w.heap.size 70 c.cs) := ⟨KB4.out.far (hb6.block _ KB4.out.lt)⟩
  have KF6 : Kept (Fx B w w6) := ⟨KF4.out.trans (Fx.ofBelow (S := fun _ => False) hb6 (Nat.le_refl _)) (fun _ _ h => h.elim)⟩
  clear hb6 KFo KCl KD4 KB4 KF4
  obtain ⟨bp, hbp⟩ : ∃ bp, S2.bp = some bp := by
    cases hx : S2.bp with
    | none => exact absurd (KD6.out.bd.nl.2.2 hx) (by show S2.bn ≠ none; rw [KBn.out]; exact fun h => nomatch h)
    | some b => exact ⟨b, rfl⟩
  have KBp := Kept.mk hbp
  clear hbp
  obtain ⟨v0, hv0⟩ : ∃ v0, rowV S2 q = v0 := ⟨_, rfl⟩
  have KV0 := Kept.mk hv0
  have KS : Kept (∀ W, CC w6 W → W.cell? ⟨d, 4, none⟩ = some (.map (some bp)) ∧ W.rangeAt w.heap.size 0 [.string g, .string m, fv]) := ⟨fun W hW => by
    have k1 := (KD6.out.later hW).pending
    have k2 := (KB6.out.far (Below.block hW _ KB6.out.lt)).range
    rw [KEq.out] at k2
    exact ⟨by rw [k1]; show some (Value.map S2.bp) = _; rw [KBp.out], k2⟩⟩
  have KLk : Kept (∀ W, CC w6 W → (Instr.lookup 54 (.map (some bp)) (.string q) false).run Tryd.prog W = .ok v0 W) := ⟨fun W hW => by
    have k := ((KD6.out.later hW).bd.mC.at KBp.out).look Tryd.underlying54 (zero_row W) (s := q) (by unfold maxLen; omega)
    rw [k]
    show Result.ok (rowV S2 q) W = _
    rw [KV0.out]⟩
  have KR0 := Kept.mk (KD6.out.bd.rowAt q)
  have KB0 : Kept (∀ g', v0.ownBlock = some g' → ∃ cur, w6.heap[g']? = some (.cells cur 70 (0, 0))) := ⟨fun g' hg' => by
    rw [← hv0] at hg'
    exact ownsRow_blk KR0.out.1 hg'⟩
  clear hv0
  go_upto_region 4 with fail
  refine wp_region_noPanic ?_
  refine wp_region_held_drew (S := fun W => W.cell? ⟨d, 4, none⟩ = some (.map (some bp)) ∧ W.rangeAt w.heap.size 0 [.string g, .string m, fv]) (by kernel_rfl) (KS.out _ (Below.refl _ _).drew) (fun hHeld => ?_)
  obtain ⟨w7, hw7⟩ : ∃ w7, w6.drew = w7 := ⟨_, rfl⟩
  have hb7 : CC w6 w7 := by rw [← hw7]; exact (Below.refl _ _).drew
  rw [hw7] at hHeld ⊢
  have KB7 := Kept.mk hb7
  clear hb7 hw7
  refine wpAnyH_takeD (i := 0) (d := some 18) (v := .pointer (some ⟨d, 0, none⟩)) rfl rfl (by kernel_rfl) (by kernel_rfl) (by kernel_rfl) (fun _ _ _ h => h) (Or.inl ⟨by rfl, fun W hSw => by obtain ⟨hSc, -⟩ := hSw; go_simp⟩) (by assumption) ?_
  simp only [Act.put, List.setIfInBounds_toArray, List.set_cons_zero, List.set_cons_succ]
  refine wpAnyH_takeD (i := 1) (d := some 19) (v := .pointer (some ⟨d, 0, none⟩)) rfl rfl (by kernel_rfl) (by kernel_rfl) (by kernel_rfl) (fun _ _ _ h => h) (Or.inl ⟨by rfl, fun W hSw => by obtain ⟨hSc, -⟩ := hSw; go_simp⟩) (by assumption) ?_
  simp only [Act.put, List.setIfInBounds_toArray, List.set_cons_zero, List.set_cons_succ]
  refine wpAnyH_takeD (i := 2) (d := some 20) (v := .pointer (some ⟨d, 4, none⟩)) rfl rfl (by kernel_rfl) (by kernel_rfl) (by kernel_rfl) (fun _ _ _ h => h) (Or.inl ⟨by rfl, fun W hSw => by obtain ⟨hSc, -⟩ := hSw; go_simp⟩) (by assumption) ?_
  simp only [Act.put, List.setIfInBounds_toArray, List.set_cons_zero, List.set_cons_succ]
  refine wpAnyH_takeD (i := 3) (d := some 21) (v := .map (some bp)) rfl rfl (by kernel_rfl) (by kernel_rfl) (by kernel_rfl) (fun _ _ _ h => h) (Or.inl ⟨by rfl, fun W hSw => by obtain ⟨hSc, -⟩ := hSw; go_simp⟩) (by assumption) ?_
  simp only [Act.put, List.setIfInBounds_toArray, List.set_cons_zero, List.set_cons_succ]
  refine wpAnyH_takeD (i := 4) (d := some 22) (v := .string q) rfl rfl (by kernel_rfl) (by kernel_rfl) (by kernel_rfl) (fun _ _ _ h => h) (Or.inl ⟨by rfl, fun W hSw => by obtain ⟨hSc, -⟩ := hSw; go_simp⟩) (by assumption) ?_
  simp only [Act.put, List.setIfInBounds_toArray, List.set_cons_zero, List.set_cons_succ]
  refine wpAnyH_takeD (i := 5) (d := some 23) (v := .pointer (some ⟨d, 0, none⟩)) rfl rfl (by kernel_rfl) (by kernel_rfl) (by kernel_rfl) (fun _ _ _ h => h) (Or.inl ⟨by rfl, fun W hSw => by obtain ⟨hSc, -⟩ := hSw; go_simp⟩) (by assumption) ?_
  simp only [Act.put, List.setIfInBounds_toArray, List.set_cons_zero, List.set_cons_succ]
  refine wpAnyH_takeD (i := 6) (d := some 24) (v := .pointer (some ⟨d, 0, none⟩)) rfl rfl (by kernel_rfl) (by kernel_rfl) (by kernel_rfl) (fun _ _ _ h => h) (Or.inl ⟨by rfl, fun W hSw => by obtain ⟨hSc, -⟩ := hSw; go_simp⟩) (by assumption) ?_
  simp only [Act.put, List.setIfInBounds_toArray, List.set_cons_zero, List.set_cons_succ]
  refine wpAnyH_takeD (i := 7) (d := some 25) (v := .pointer (some ⟨d, 4, none⟩)) rfl rfl (by kernel_rfl) (by kernel_rfl) (by kernel_rfl) (fun _ _ _ h => h) (Or.inl ⟨by rfl, fun W hSw => by obtain ⟨hSc, -⟩ := hSw; go_simp⟩) (by assumption) ?_
  simp only [Act.put, List.setIfInBounds_toArray, List.set_cons_zero, List.set_cons_succ]
  refine wpAnyH_takeD (i := 8) (d := some 26) (v := .map (some bp)) rfl rfl (by kernel_rfl) (by kernel_rfl) (by kernel_rfl) (fun _ _ _ h => h) (Or.inl ⟨by rfl, fun W hSw => by obtain ⟨hSc, -⟩ := hSw; go_simp⟩) (by assumption) ?_
  simp only [Act.put, List.setIfInBounds_toArray, List.set_cons_zero, List.set_cons_succ]
  refine wpAnyH_takeD (i := 9) (d := some 27) (v := .string q) rfl rfl (by kernel_rfl) (by kernel_rfl) (by kernel_rfl) (fun _ _ _ h => h) (Or.inl ⟨by rfl, fun W hSw => by obtain ⟨hSc, -⟩ := hSw; go_simp⟩) (by assumption) ?_
  simp only [Act.put, List.setIfInBounds_toArray, List.set_cons_zero, List.set_cons_succ]
  refine wpAnyH_takeD (i := 11) (d := some 29) (v := .agg #[.string g, .string m, fv]) rfl rfl (by kernel_rfl) (by kernel_rfl) (by kernel_rfl) (fun _ _ _ h => h) (yieldsIf_load_mid (by rfl) 70 _ rfl w.heap.size 0 rfl [.string g, .string m, fv] _ (fun W hSw => hSw.2) Tryd.underlying70 rfl sizeC) (by assumption) ?_
  simp only [Act.put, List.setIfInBounds_toArray, List.set_cons_zero, List.set_cons_succ]
  have hlk7 := KLk.out w7 KB7.out
  obtain ⟨w8, hw8⟩ : ∃ w8, w7.alloc (.cells #[.string g, .string m, fv] 70) = w8 := ⟨_, rfl⟩
  have hb8 : CC w6 w8 := by rw [← hw8]; exact Below.alloc KB7.out (Below.size KB7.out) _
  have hlk8 := KLk.out w8 hb8
  have hS8 := KS.out w8 hb8
  have hS7 := KS.out w7 KB7.out
  have hB8 : Bk w8 w7.heap.size 70 c.cs := by rw [← hw8, KEq.out]; exact Bk.new w7 _ _
  have KX8 := Kept.mk hB8
  have KR8 : Kept (w8.ownsRow 0 70 3 v0 (rowL S2 q).length ((rowL S2 q).flatMap Chg.cs)) := ⟨by
    rw [← KV0.out]
    exact ownsRow_far KR0.out.1 (fun g' hg' => Below.block hb8 _ (ownsRow_lt KR0.out.1 hg'))⟩
  have KL8 : Kept ((rowL S2 q).length ≤ 1000) := ⟨by have h2 : (rowL S2 q).length ≤ S2.m := KR0.out.2.1; have h3 := KSm.out; omega⟩
  have KQs : Kept (q.size ≤ maxLen) := ⟨by unfold maxLen; omega⟩
  have hd8 : v0.ownBlock ≠ some d := fun e => by
    obtain ⟨cur, hcur⟩ := KB0.out d e
    exact type_ne KD6.out.blk hcur (by decide) rfl
  have hx8 : v0.ownBlock ≠ some w.heap.size := fun e => by
    have e2 : rowV S2 q = rowV S q := by unfold rowV; rw [KSC.out]
    rw [← KV0.out, e2] at e
    have := KLt.out q _ e
    omega
  have hdne : d ≠ w.heap.size := fun e => by have := Kdlt.out; omega
  have hbm8 : MapAt w8 (some bp) (n + 1) (rwV S2.C) := ((KD6.out.later hb8).bd.mC.at KBp.out)
  have hbr : v0.ownBlock ≠ some bp := fun e => by
    obtain ⟨cur, hcur⟩ := KB0.out bp e
    exact (KD6.out.bd.mC.at KBp.out).notBk hcur
  have hD8 : Bk w8 d 59 _ := (KD6.out.later hb8).blk
  have hX8 : Bk w8 w.heap.size 70 c.cs := KB6.out.far (Below.block hb8 _ KB6.out.lt)
  have hdc : ∀ W, w8.grownBy W v0.ownBlock → Bk W d 59 (St.cs { S2 with N := apl S2.N c }) ∧ Bk W w.heap.size 70 c.cs := fun W hW => ⟨hD8.far (hW.block d hD8.lt (fun e => hd8 e.symm)), hX8.far (hW.block _ hX8.lt (fun e => hx8 e.symm))⟩
  have hcell : ∀ W, Bk W d 59 (St.cs { S2 with N := apl S2.N c }) → Bk W w.heap.size 70 c.cs → W.cell? ⟨d, 4, none⟩ = some (.map (some bp)) ∧ W.rangeAt w.heap.size 0 [.string g, .string m, fv] := fun W h1 h2 => by
    have k1 := h1.cell 4 _ rfl
    have k2 := h2.range
    rw [KEq.out] at k2
    exact ⟨by rw [k1]; show some (Value.map S2.bp) = _; rw [KBp.out], k2⟩
  have KS9 : Kept (∀ W, w8.grownBy W v0.ownBlock → W.cell? ⟨d, 4, none⟩ = some (.map (some bp)) ∧ W.rangeAt w.heap.size 0 [.string g, .string m, fv]) := ⟨fun W hW => hcell W (hdc W hW).1 (hdc W hW).2⟩
  have KN9 : Kept (∀ W, w8.grownBy W v0.ownBlock → MapAt W (some bp) (n + 1) (rwV S2.C)) := ⟨fun W hW => hbm8.far (fun b e => by injection e with e; subst e; exact hW.block _ hbm8.lt (fun e => hbr e.symm)) (Nat.le_refl _)⟩
  have KS10 : Kept (∀ W V, w8.grownBy W v0.ownBlock → Fx (fun i => i = bp) W V → V.cell? ⟨d, 4, none⟩ = some (.map (some bp)) ∧ V.rangeAt w.heap.size 0 [.string g, .string m, fv]) := ⟨fun W V hW hV => by
    have hmW := hbm8.far (w' := W) (fun b e => by injection e with e; subst e; exact hW.block _ hbm8.lt (fun e => hbr e.symm)) (Nat.le_refl _)
    obtain ⟨h1, h2⟩ := hdc W hW
    exact hcell V (h1.far (hV.block d h1.lt (fun e => by subst e; exact hmW.notBk h1))) (h2.far (hV.block _ h2.lt (fun e => by rw [← e] at hmW; exact hmW.notBk h2)))⟩
  have KM : Kept (n + 1 < maxLen) := ⟨by unfold maxLen; omega⟩
  have KEnd : Kept (∀ v1 W V, W.ownsRow 0 70 3 v1 (rowL S2 q ++ [c]).length ((rowL S2 q ++ [c]).flatMap Chg.cs) → w8.grownBy W v0.ownBlock → (v1.ownBlock = v0.ownBlock ∨ v1.ownBlock = some w8.heap.size) → MapAt V (some bp) (n + 1 + 1) (upd (rwV S2.C) q (some v1)) → Fx (fun i => i = bp) W V → ∃ S', Dk V (Gr B w) d S' (n + 2) ∧ S'.ps = noteP S.ps p c ∧ S'.F = S.F ∧ Fx B w V ∧ S'.m = S.m + 1) := ⟨fun v1 W V h1 h2 h3 h4 h5 => by
    have hX2 : ∀ f, c.file = some f → ∃ e, S2.F f = some e := by rw [KSF.out]; exact KX.out
    have hs8 : w6.heap.size ≤ w8.heap.size := Below.size hb8
    have hsW := h2.size
    have hD := KD6.out.noted (w9 := W) (w10 := V) KBp.out KFs KC.out hX2 (by omega) (fun i hi hne => by
      have e2 : v0.ownBlock ≠ some i := by rw [← KV0.out]; exact hne
      rw [h2.block i (by omega) (fun e => e2 e.symm)]
      exact Below.block hb8 i hi) h1 (by
      rcases h3 with h3 | h3
      · exact .inl (by rw [h3, ← KV0.out]; rfl)
      · exact .inr ⟨_, h3, hs8⟩) h4 h5
    refine ⟨_, hD.weak (fun i _ hi => ?_) (Nat.le_refl _), ?_, by show S2.F = S.F; exact KSF.out, ?_, by show S2.m + 1 = S.m + 1; rw [KSm.out]⟩
    · rcases hi with hi | hi
      · exact hi
      · exact .inr (Nat.le_trans KF6.out.size hi)
    · rw [← KQ.out]
      exact ps_noted KPs.out p c v1 _ rfl
    · have f1 : Fx B w w8 := KF6.out.trans (Fx.ofBelow (S := fun _ => False) hb8 (Nat.le_refl _)) (fun _ _ h => h.elim)
      have f2 : Fx B w W := f1.trans (Fx.grown h2) (fun i hi e => by
        have hg0 := KR0.out.2.2
        rcases hg0 with hg0 | ⟨-, hg0, -⟩
        · rcases (KD6.out.bd.rw q _ _ hg0).1.ownB i (by show (rowV S2 q).ownBlock = some i; rw [KV0.out]; exact e) with hb | hb
          · exact hb
          · omega
        · rw [← KV0.out] at e
          rw [show rowV S2 q = .slice none 0 0 from hg0] at e
          cases e)
      exact f2.trans h5 (fun i hi e => by
        subst e
        rcases KD6.out.bd.bB i (.inr (.inr (.inl KBp.out))) with hb | hb
        · exact hb
        · omega)⟩
  clear hd8 hx8 hB8 hdne hbm8 hbr hD8 hX8 hdc hcell
  refine wpAnyH_ready (rs := [10, 12]) (by kernel_rfl) (by simp) ?_
  refine AllReadyH.cons (o := _) rfl (fun K hK => ?_) (AllReadyH.cons (o := _) rfl (fun K hK => ?_) AllReadyH.nil)
  · go_simp
    refine hK.out _ _ hS7 (fun hHeld2 => ?_)
    clear hK K
    refine wpAnyH_ready (rs := [12]) (by kernel_rfl) (by simp) ?_
    refine AllReadyH.cons (o := _) rfl (fun K hK => ?_) AllReadyH.nil
    rw [if_pos (by rfl)]
    go_simp
    refine hK.out _ _ hS8 (fun hHeld3 => ?_)
    clear hK K
    refine wpAnyH_ready (rs := [13]) (by kernel_rfl) (by simp) ?_
    refine AllReadyH.cons (o := _) rfl (fun K hK => ?_) AllReadyH.nil
    rw [if_pos (by rfl)]
    refine wp_append_C _ _ rfl v0 (rowL S2 q) rfl KR8.out c w7.heap.size 1 rfl KX8.out KL8.out ?_
    intro v1 w9 hrow9 hg9 hat9
    have hn9 := KN9.out w9 hg9
    refine hK.out _ _ (KS9.out w9 hg9) (fun hHeld4 => ?_)
    clear hK K
    refine wpAnyH_ready (rs := [14]) (by kernel_rfl) (by simp) ?_
    refine AllReadyH.cons (o := _) rfl (fun K hK => ?_) AllReadyH.nil
    rw [if_pos (by rfl)]
    refine wp_put _ _ _ 54 68 rfl Tryd.underlying54 bp (n + 1) (rwV S2.C) rfl hn9 KM.out q KQs.out v1 rfl rfl ?_
    intro w10 hM10 hF10
    refine hK.out _ _ (KS10.out w9 w10 hg9 hF10) (fun hHeld5 => ?_)
    clear hK K
    refine wpAnyH_done (by kernel_rfl) ?_ _
    refine NoPanic.normal ?_
    refine bodyPost_end (results_none rfl _ _ _) rfl ?_
    exact ⟨rfl, KEnd.out v1 w9 w10 hrow9 hg9 hat9 hM10 hF10⟩
  · rw [if_pos (by rfl)]
    go_simp
    refine hK.out _ _ hS8 (fun hHeld2 => ?_)
    clear hK K
    refine wpAnyH_ready (rs := [10]) (by kernel_rfl) (by simp) ?_
    refine AllReadyH.cons (o := _) rfl (fun K hK => ?_) AllReadyH.nil
    go_simp
    refine hK.out _ _ hS8 (fun hHeld3 => ?_)
    clear hK K
    refine wpAnyH_ready (rs := [13]) (by kernel_rfl) (by simp) ?_
    refine AllReadyH.cons (o := _) rfl (fun K hK => ?_) AllReadyH.nil
    rw [if_pos (by rfl)]
    refine wp_append_C _ _ rfl v0 (rowL S2 q) rfl KR8.out c w7.heap.size 1 rfl KX8.out KL8.out ?_
    intro v1 w9 hrow9 hg9 hat9
    have hn9 := KN9.out w9 hg9
    refine hK.out _ _ (KS9.out w9 hg9) (fun hHeld4 => ?_)
    clear hK K
    refine wpAnyH_ready (rs := [14]) (by kernel_rfl) (by simp) ?_
    refine AllReadyH.cons (o := _) rfl (fun K hK => ?_) AllReadyH.nil
    rw [if_pos (by rfl)]
    refine wp_put _ _ _ 54 68 rfl Tryd.underlying54 bp (n + 1) (rwV S2.C) rfl hn9 KM.out q KQs.out v1 rfl rfl ?_
    intro w10 hM10 hF10
    refine hK.out _ _ (KS10.out w9 w10 hg9 hF10) (fun hHeld5 => ?_)
    clear hK K
    refine wpAnyH_done (by kernel_rfl) ?_ _
    refine NoPanic.normal ?_
    refine bodyPost_end (results_none rfl _ _ _) rfl ?_
    exact ⟨rfl, KEnd.out v1 w9 w10 hrow9 hg9 hat9 hM10 hF10⟩
end Go.Proofs.YtegdadkejheagaaDoor
