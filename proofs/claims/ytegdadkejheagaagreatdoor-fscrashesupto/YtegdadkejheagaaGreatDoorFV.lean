/-
  Walks: Files.
-/
import Derived.Test.YtegdadkejheagaaGreatDoorFU
namespace Go.Proofs.YtegdadkejheagaaGreatDoor
open Go.RowKit Go.WideMaps Go.Maps

/-- A file that is told: its path, its bytes as a slice and as numbers. -/
structure FlC where
  p : ByteArray
  v : Value
  xs : List Int
def FlC.cs (c : FlC) : List Value := [.string c.p, c.v]
/-- A list of files in memory of the call's own. -/
structure OwnF (w : World) (base : Nat) (v : Value) (l : List FlC) : Prop where
  own : w.ownsRow base 52 2 v l.length (l.flatMap FlC.cs)
  dat : ∀ c ∈ l, Own .u8 5 w base c.v c.xs
theorem OwnF.nil (w : World) (base : Nat) : OwnF w base (.slice none 0 0) [] := ⟨World.ownsRow_nil w base _ 2, fun _ h => nomatch h⟩
theorem OwnF.later {w w' : World} {base : Nat} {v : Value} {l : List FlC} (h : OwnF w base v l) (hb : Below w.heap.size w w') : OwnF w' base v l :=
  ⟨ownsRow_far h.own (fun _ hg => hb.block _ (ownsRow_lt h.own hg)), fun c hc => (h.dat c hc).later hb (Nat.le_refl _)⟩
theorem OwnF.form {w : World} {base : Nat} {v : Value} {l : List FlC} (h : OwnF w base v l) : ∃ a c, v = .slice a l.length c := by
  rcases h.own.2 with ⟨h1, h2⟩ | ⟨_, cap, cur, h1, -⟩
  · exact ⟨none, 0, by rw [h1, h2]⟩
  · exact ⟨_, _, h1⟩
set_option maxRecDepth 100000 in
theorem infoF : ∃ i z, Tryz.prog.info? 52 = some i ∧ i.zero = some z ∧ i.size = 2 ∧ i.bytes = 40 ∧ z.cells.size = 2 := ⟨_, _, rfl, rfl, rfl, rfl, rfl⟩
section
variable {o : Oper} {a : Act} {w : World} {K : Act → World → Prop} {Q : Exit → Act → World → Prop}
set_option maxRecDepth 100000 in
/-- append of one file that lies in a block of its own. -/
theorem wp_append_F (s x : Operand) (ho : o.op = .call { callee := .builtin .append, args := #[s, x], argTypes := #[48, 48] })
    (base : Nat) (v : Value) (l : List FlC) (hsv : a.eval s = v) (hown : OwnF w base v l) (c : FlC) (h1 : c.v.oneCell' = true) (g k : Nat) (hx : a.eval x = .slice (some ⟨g, 0, none⟩) 1 k) (hblk : Bk w g 52 c.cs) (hl : l.length ≤ 1000000) (hb : base ≤ w.heap.size)
    (h : ∀ v' w', w'.ownsRow base 52 2 v' (l ++ [c]).length ((l ++ [c]).flatMap FlC.cs) → w.grownBy w' v.ownBlock → K (a.put o.dst v') w') : o.wp Tryz.prog a w K Q := by
  obtain ⟨i, z, hi, hz, hs, hb0, hc⟩ := infoF
  have hcell : ∀ j u, c.cs[j]? = some u → w.cell? ((⟨g, 0, none⟩ : Addr).add j) = some u := fun j u hu => by
    rw [add_plain, Nat.zero_add]
    exact hblk.cell j u hu
  obtain ⟨v', w', hr, h2, h3, -, h5⟩ := run_append_own_at (P := Tryz.prog) w base 48 o.type 52 i z 2 40 Tryz.underlying48 hi hz hs hb0 hc (by decide) v _ _ hown.own ⟨g, 0, none⟩ 1 k c.cs rfl hcell (fun u hu => by
    unfold FlC.cs at hu
    simp only [List.mem_cons, List.not_mem_nil, or_false] at hu
    rcases hu with rfl | rfl
    · rfl
    · exact h1) (by unfold maxLen; omega) (by omega) hb
  unfold Oper.wp execOp
  simp only [ho, resolve, invoke, builtin, Sem.run_bind, Sem.run_pure, Result.andThen_ok, List.map_toArray, List.map_cons, List.map_nil, hsv, hx, hr]
  refine h v' w' ?_ h3
  rw [List.flatMap_append, List.length_append]
  simpa using h2
end
def flP (s : Ps) (ps : List ByteArray) : List (ByteArray × List Int) := ps.map fun p => (p, match fileP s p with | none => [] | some (_, xs, _) => xs)
/-- The files that are told. -/
def FlL (s : Ps) (l : List FlC) : Prop := if s.dark = true then l = [] else ∃ ps, KeysOk (nmV s.N) ps ∧ l.map (fun c : FlC => (c.p, c.xs)) = flP s ps
def FlE (w : World) (S : St) (e : Ending) (w' : World) : Prop := ∃ v l, e = .returned (.tuple #[v, .int .i64 (rdyE S.dark)]) ∧ OwnF w' w.heap.size v l ∧ FlL S.ps l ∧ Below w.heap.size w w'
set_option maxRecDepth 100000 in
theorem files_nil (w : World) : Calls Tryz.prog 15 #[.pointer none] w fun e w' => e = .returned (.tuple #[.slice none 0 0, .int .i64 7]) ∧ w' = w := by
  have KRy := Kept.mk (ready_nil w)
  go_enter Tryz.func15, Tryz.ntmps15
  go_wp2_with fail
  refine Calls.mono KRy.out (fun x w1 hp => ?_)
  obtain ⟨rfl, rfl⟩ := hp
  go_wp2
  go_ret2
  exact ⟨rfl, rfl⟩
set_option maxRecDepth 100000 in
set_option maxHeartbeats 4000000 in
theorem files_any {w : World} {B : Nat → Prop} {d n : Nat} {S : St} (h : Dk w B d S n) (hn : n ≤ 900000) :
    Calls Tryz.prog 15 #[.pointer (some ⟨d, 0, none⟩)] w fun e w' => FlE w S e w' := by
  have KD := Kept.mk h
  have KRy := Kept.mk (ready_any h)
  clear h
  go_enter Tryz.func15, Tryz.ntmps15
  cases hk : S.dark with
  | true =>
    have er : rdyE S.dark = 13 := by rw [hk]; rfl
    rw [er] at KRy
    have Ker := Kept.mk er
    have Kk := Kept.mk hk
    clear er hk
    go_wp2_with fail
    refine Calls.mono KRy.out (fun x w1 hp => ?_)
    obtain ⟨rfl, hw⟩ := hp
    subst hw
    go_wp2
    go_ret2
    exact ⟨_, [], by rw [Ker.out]; rfl, OwnF.nil _ _, by unfold FlL; rw [if_pos (by exact Kk.out)], Below.refl _ _⟩
  | false =>
    have er : rdyE S.dark = 0 := by rw [hk]; rfl
    rw [er] at KRy
    have Ker := Kept.mk er
    have Kk := Kept.mk hk
    clear er hk
    have g2 := KD.out.names
    have KK := Kept.mk (keysF_any KD.out.bd.mN (by omega))
    go_wp2_with fail
    refine Calls.mono KRy.out (fun x w1 hp => ?_)
    obtain ⟨rfl, hw⟩ := hp
    subst hw
    go_wp2_with fail
    refine Calls.mono KK.out (fun e w2 hp => ?_)
    obtain ⟨kv, ps, rfl, hrow, hps, hpl, hb2⟩ := hp
    have KB2 := Kept.mk hb2
    have KR2 := Kept.mk hrow
    have Kps := Kept.mk hps
    have hpi0 : (ps.length : Int) ≤ 900000 := by omega
    obtain ⟨ka, kc, rfl⟩ := key_form hrow
    clear hrow hps hb2 KK g2 KRy
    go_wp2
    go_loopw [5, 7, 19] (fun fv _ kx wr => ∃ (k : Nat) (l : List FlC), k ≤ ps.length ∧ kx = .int .i64 k ∧ Below w1.heap.size w1 wr ∧ w2.heap.size ≤ wr.heap.size ∧ wr.ownsRow 0 9 1 (.slice ka ps.length kc) ps.length (ps.map Value.string) ∧ OwnF wr w1.heap.size fv l ∧ l.map (fun c : FlC => (c.p, c.xs)) = flP S.ps (ps.take k)) (fun _ _ kx _ => ps.length - (intOf kx).toNat)
    case atStart => exact ⟨0, [], Nat.zero_le _, rfl, KB2.out, Nat.le_refl _, ownsRow_base_a KR2.out (Nat.zero_le _), OwnF.nil _ _, rfl⟩
    case round =>
      obtain ⟨k, l, hk, rfl, hb, hsz, hky, hof, hmap⟩ := hrel
      obtain ⟨la, lc, rfl⟩ := hof.form
      by_cases hlt : k < ps.length
      · have hki : (k : Int) < (ps.length : Int) := by omega
        have KB := Kept.mk hb
        have hdr := KD.out.later hb
        obtain ⟨g0, c0, hkv, hkc⟩ := key_cell hky hlt
        injection hkv with hk1 _ hk3
        subst hk1 hk3
        obtain ⟨p, hp⟩ : ∃ p, ps[k]'hlt = p := ⟨_, rfl⟩
        rw [hp] at hkc
        have hpm : nmV S.N p ≠ none := (Kps.out.mem p).1 (by rw [← hp]; exact List.getElem_mem hlt)
        obtain ⟨f, hf⟩ : ∃ f, S.N p = some f := by
          cases hx : S.N p with
          | none => exact absurd (by unfold nmV; rw [hx]; rfl) hpm
          | some x => exact ⟨x, rfl⟩
        have hps : p.size ≤ 200 := hdr.bd.kz p (.inl (by rw [hf]; exact fun h => nomatch h))
        obtain ⟨c, hc⟩ := hdr.bd.nF p f hf
        have KFP := Kept.mk (fileP_some hf hc)
        obtain ⟨vd, hvd⟩ : ∃ vd, c.v = vd := ⟨_, rfl⟩
        have hll : l.length ≤ 900000 := by
          have := congrArg List.length hmap
          simp only [flP, List.length_map, List.length_take] at this
          omega
        have KCell : Kept (∀ W, CC wr W → W.cell? ⟨d, 2, none⟩ = some (.map S.bn) ∧ W.cell? ⟨f, 0, none⟩ = some vd ∧ (Instr.lookup 53 (.map S.bn) (.string p) false).run Tryz.prog W = .ok (.pointer (some ⟨f, 0, none⟩)) W) := ⟨fun W hW => by
          have hd := hdr.later hW
          have h1 := (hd.bd.fl f c hc).blk.cell 0 _ rfl
          have h2 := hd.bd.mN.look Tryz.underlying53 (zero_ptr W) (s := p) (by unfold maxLen; omega)
          rw [nmV_get, hf] at h2
          exact ⟨hd.names, by rw [← hvd]; exact h1, h2⟩⟩
        have KSc : Kept (∀ W, CC wr W → Calls Tryz.prog 39 #[.string p] W fun e w' => e = .returned (.string p) ∧ Below W.heap.size W w') := ⟨fun W _ => sclone_any p W (by omega)⟩
        have KBc : Kept (∀ W, CC wr W → Calls Tryz.prog 42 #[vd] W fun e w' => ∃ v', e = .returned v' ∧ Own .u8 5 w' W.heap.size v' c.xs ∧ Below W.heap.size W w') := ⟨fun W hW => by
          have hd := hdr.later hW
          rw [← hvd]
          exact clone_own (hd.bd.fl f c hc).own (hd.bd.fl f c hc).big⟩
        have KEnd : Kept (∀ W2 a5 c5, CC wr W2 → Own .u8 5 W2 wr.heap.size (.slice a5 c.xs.length c5) c.xs →
            CC wr (W2.alloc (.cells #[.string p, .slice a5 c.xs.length c5] 52)) ∧ OwnF (W2.alloc (.cells #[.string p, .slice a5 c.xs.length c5] 52)) w1.heap.size (.slice la l.length lc) l ∧ Bk (W2.alloc (.cells #[.string p, .slice a5 c.xs.length c5] 52)) W2.heap.size 52 (FlC.cs (FlC.mk p (.slice a5 c.xs.length c5) c.xs)) ∧
            ∀ v6 W4, W4.ownsRow w1.heap.size 52 2 v6 (l ++ [(FlC.mk p (.slice a5 c.xs.length c5) c.xs)]).length ((l ++ [(FlC.mk p (.slice a5 c.xs.length c5) c.xs)]).flatMap FlC.cs) → (W2.alloc (.cells #[.string p, .slice a5 c.xs.length c5] 52)).grownBy W4 (Value.slice la l.length lc).ownBlock →
              (W4.cell? ⟨d, 2, none⟩ = some (.map S.bn) ∧ W4.cell? ⟨f, 0, none⟩ = some vd ∧ (Instr.lookup 53 (.map S.bn) (.string p) false).run Tryz.prog W4 = .ok (.pointer (some ⟨f, 0, none⟩)) W4) ∧
              Below w1.heap.size w1 W4 ∧ w2.heap.size ≤ W4.heap.size ∧ W4.ownsRow 0 9 1 (.slice (some ⟨g0, 0, none⟩) ps.length kc) ps.length (ps.map Value.string) ∧ OwnF W4 w1.heap.size v6 (l ++ [(FlC.mk p (.slice a5 c.xs.length c5) c.xs)]) ∧ (l ++ [(FlC.mk p (.slice a5 c.xs.length c5) c.xs)]).map (fun c : FlC => (c.p, c.xs)) = flP S.ps (ps.take (k + 1))) := ⟨fun W2 a5 c5 hW2 ho5 => by
          obtain ⟨W3, hW3⟩ : ∃ W3, W2.alloc (.cells #[.string p, .slice a5 c.xs.length c5] 52) = W3 := ⟨_, rfl⟩
          have hb3 : Below W2.heap.size W2 W3 := by rw [← hW3]; exact (Below.refl _ _).alloc (Nat.le_refl _) _
          have hk3 : Bk W3 W2.heap.size 52 (FlC.cs (FlC.mk p (.slice a5 c.xs.length c5) c.xs)) := by rw [← hW3]; exact Bk.new W2 _ _
          have hC3 : CC wr W3 := CC.on hW2 hb3
          have hO3 := hof.later hC3
          rw [hW3]
          refine ⟨hC3, hO3, hk3, fun v6 W4 hrow hg => ?_⟩
          have hF4 : Fx (fun i => w1.heap.size ≤ i) W3 W4 := (Fx.grown hg).weak (fun i _ e => (hO3.own.2.elim (fun h => by rw [h.1] at e; cases e) (fun ⟨g', cap, cur, h1, h2, _⟩ => by
            rw [h1] at e
            simp only [Value.ownBlock, Option.some.injEq] at e
            omega)))
          have hB4 : Below w1.heap.size w1 W4 := (hb.trans (Below.mono hC3 hb.size)).trans (hF4.below (Nat.le_trans hb.size (Below.size hC3)) (fun i hi h => by omega))
          have hd4 := KD.out.later hB4
          have h1 := (hd4.bd.fl f c hc).blk.cell 0 _ rfl
          have h2 := hd4.bd.mN.look Tryz.underlying53 (zero_ptr W4) (s := p) (by unfold maxLen; omega)
          rw [nmV_get, hf] at h2
          have hfar : ∀ {g : Nat} {cs : Array Value} {e : TypeId} {q : Nat × Nat}, W3.heap[g]? = some (.cells cs e q) → e ≠ 52 → W4.heap[g]? = W3.heap[g]? := fun {g cs e q} hg' he => hg.block g (Array.getElem?_eq_some_iff.1 hg').1 (fun e' => by
            obtain ⟨cur, hcur⟩ := ownsRow_blk hO3.own e'.symm
            exact type_ne hg' hcur he rfl)
          have hky3 := ownsRow_far hky (fun g hg' => Below.block hC3 _ (ownsRow_lt hky hg'))
          refine ⟨⟨hd4.names, by rw [← hvd]; exact h1, h2⟩, hB4, by have := hg.size; have := Below.size hC3; omega, ownsRow_far hky3 (fun g hg' => ?_), ⟨hrow, fun x hx => ?_⟩, ?_⟩
          · obtain ⟨cur, hcur⟩ := ownsRow_blk hky3 hg'
            exact hfar hcur (by decide)
          · rcases List.mem_append.1 hx with hx | hx
            · refine (hO3.dat x hx).far (fun g hg' => ?_)
              obtain ⟨cur, hcur⟩ := ownsRow_blk (hO3.dat x hx) hg'
              exact hfar hcur (by decide)
            · simp only [List.mem_singleton] at hx
              subst hx
              have ho3 := (ho5.mono hb.size).later hb3 (Nat.le_refl _)
              refine ho3.far (fun g hg' => ?_)
              obtain ⟨cur, hcur⟩ := ownsRow_blk ho3 hg'
              exact hfar hcur (by decide)
          · rw [List.map_append, hmap, List.take_add_one, List.getElem?_eq_getElem hlt, hp]
            show flP S.ps (ps.take k) ++ [(p, c.xs)] = flP S.ps (ps.take k ++ [p])
            unfold flP
            rw [List.map_append, List.map_singleton, KFP.out]⟩
        have KSR := Kept.mk hky
        clear hb hsz hky hof hmap hdr hc hf hvd hpm hp KFP
        go_upto_region 8 with fail
        refine wp_region_noPanic ?_
        refine wp_region_held_drew (S := fun W => W.cell? ⟨d, 2, none⟩ = some (.map S.bn) ∧ W.cell? ⟨f, 0, none⟩ = some vd ∧ (Instr.lookup 53 (.map S.bn) (.string p) false).run Tryz.prog W = .ok (.pointer (some ⟨f, 0, none⟩)) W) (by kernel_rfl) (KCell.out _ (Below.refl _ _).drew) (fun hHeld => ?_)
        obtain ⟨W0, hW0⟩ : ∃ W0, wr.drew = W0 := ⟨_, rfl⟩
        have KW0 : Kept (CC wr W0) := ⟨by rw [← hW0]; exact (Below.refl _ _).drew⟩
        rw [hW0] at hHeld ⊢
        clear hW0 hkc
        refine wpAnyH_takeD (i := 0) (d := some 23) (v := .slice la l.length lc) rfl rfl (by kernel_rfl) (by kernel_rfl) (by kernel_rfl) (fun _ _ _ h => h) (Or.inl ⟨by rfl, fun W hSw => by obtain ⟨hS0, hS1, hS2⟩ := hSw; go_simp⟩) (by assumption) ?_
        simp only [Act.put, List.setIfInBounds_toArray, List.set_cons_zero, List.set_cons_succ]
        refine wpAnyH_takeD (i := 1) (d := some 24) (v := .string p) rfl rfl (by kernel_rfl) (by kernel_rfl) (by kernel_rfl) (fun _ _ _ h => h) (Or.inl ⟨by rfl, fun W hSw => by obtain ⟨hS0, hS1, hS2⟩ := hSw; go_simp⟩) (by assumption) ?_
        simp only [Act.put, List.setIfInBounds_toArray, List.set_cons_zero, List.set_cons_succ]
        refine wpAnyH_takeD (i := 3) (d := some 26) (v := .pointer (some ⟨d, 0, none⟩)) rfl rfl (by kernel_rfl) (by kernel_rfl) (by kernel_rfl) (fun _ _ _ h => h) (Or.inl ⟨by rfl, fun W hSw => by obtain ⟨hS0, hS1, hS2⟩ := hSw; go_simp⟩) (by assumption) ?_
        simp only [Act.put, List.setIfInBounds_toArray, List.set_cons_zero, List.set_cons_succ]
        refine wpAnyH_takeD (i := 4) (d := some 27) (v := .pointer (some ⟨d, 0, none⟩)) rfl rfl (by kernel_rfl) (by kernel_rfl) (by kernel_rfl) (fun _ _ _ h => h) (Or.inl ⟨by rfl, fun W hSw => by obtain ⟨hS0, hS1, hS2⟩ := hSw; go_simp⟩) (by assumption) ?_
        simp only [Act.put, List.setIfInBounds_toArray, List.set_cons_zero, List.set_cons_succ]
        refine wpAnyH_takeD (i := 5) (d := some 28) (v := .pointer (some ⟨d, 2, none⟩)) rfl rfl (by kernel_rfl) (by kernel_rfl) (by kernel_rfl) (fun _ _ _ h => h) (Or.inl ⟨by rfl, fun W hSw => by obtain ⟨hS0, hS1, hS2⟩ := hSw; go_simp⟩) (by assumption) ?_
        simp only [Act.put, List.setIfInBounds_toArray, List.set_cons_zero, List.set_cons_succ]
        refine wpAnyH_takeD (i := 6) (d := some 29) (v := .map S.bn) rfl rfl (by kernel_rfl) (by kernel_rfl) (by kernel_rfl) (fun _ _ _ h => h) (Or.inl ⟨by rfl, fun W hSw => by obtain ⟨hS0, hS1, hS2⟩ := hSw; go_simp⟩) (by assumption) ?_
        simp only [Act.put, List.setIfInBounds_toArray, List.set_cons_zero, List.set_cons_succ]
        refine wpAnyH_takeD (i := 7) (d := some 30) (v := .string p) rfl rfl (by kernel_rfl) (by kernel_rfl) (by kernel_rfl) (fun _ _ _ h => h) (Or.inl ⟨by rfl, fun W hSw => by obtain ⟨hS0, hS1, hS2⟩ := hSw; go_simp⟩) (by assumption) ?_
        simp only [Act.put, List.setIfInBounds_toArray, List.set_cons_zero, List.set_cons_succ]
        refine wpAnyH_takeD (i := 8) (d := some 31) (v := .pointer (some ⟨f, 0, none⟩)) rfl rfl (by kernel_rfl) (by kernel_rfl) (by kernel_rfl) (fun _ _ _ h => h) (Or.inl ⟨by rfl, fun W hSw => by obtain ⟨hS0, hS1, hS2⟩ := hSw; go_simp⟩) (by assumption) ?_
        simp only [Act.put, List.setIfInBounds_toArray, List.set_cons_zero, List.set_cons_succ]
        refine wpAnyH_takeD (i := 9) (d := some 32) (v := .pointer (some ⟨f, 0, none⟩)) rfl rfl (by kernel_rfl) (by kernel_rfl) (by kernel_rfl) (fun _ _ _ h => h) (Or.inl ⟨by rfl, fun W hSw => by obtain ⟨hS0, hS1, hS2⟩ := hSw; go_simp⟩) (by assumption) ?_
        simp only [Act.put, List.setIfInBounds_toArray, List.set_cons_zero, List.set_cons_succ]
        refine wpAnyH_takeD (i := 10) (d := some 33) (v := .pointer (some ⟨f, 0, none⟩)) rfl rfl (by kernel_rfl) (by kernel_rfl) (by kernel_rfl) (fun _ _ _ h => h) (Or.inl ⟨by rfl, fun W hSw => by obtain ⟨hS0, hS1, hS2⟩ := hSw; go_simp⟩) (by assumption) ?_
        simp only [Act.put, List.setIfInBounds_toArray, List.set_cons_zero, List.set_cons_succ]
        refine wpAnyH_takeD (i := 11) (d := some 34) (v := vd) rfl rfl (by kernel_rfl) (by kernel_rfl) (by kernel_rfl) (fun _ _ _ h => h) (Or.inl ⟨by rfl, fun W hSw => by obtain ⟨hS0, hS1, hS2⟩ := hSw; go_simp⟩) (by assumption) ?_
        simp only [Act.put, List.setIfInBounds_toArray, List.set_cons_zero, List.set_cons_succ]
        refine wpAnyH_ready (rs := [2]) (by kernel_rfl) (by simp) ?_
        refine AllReadyH.cons (o := _) rfl (fun K hK => ?_) AllReadyH.nil
        rw [if_pos (by rfl)]
        go_simp
        refine Calls.mono (KSc.out W0 KW0.out) (fun e W1 hp => ?_)
        obtain ⟨rfl, hbB⟩ := hp
        have KW1 : Kept (CC wr W1) := ⟨CC.on KW0.out hbB⟩
        clear hbB
        refine hK.out _ _ (KCell.out W1 KW1.out) (fun hHeldX => ?_)
        clear hK K hHeldX
        have hHeld := KCell.out W1 KW1.out
        refine wpAnyH_ready (rs := [12]) (by kernel_rfl) (by simp) ?_
        refine AllReadyH.cons (o := _) rfl (fun K hK => ?_) AllReadyH.nil
        rw [if_pos (by rfl)]
        go_simp
        refine Calls.mono (KBc.out W1 KW1.out) (fun e W2 hp => ?_)
        obtain ⟨v5, rfl, ho5, hbB⟩ := hp
        have KW2 : Kept (CC wr W2) := ⟨CC.on KW1.out hbB⟩
        have KO5 : Kept (Own .u8 5 W2 wr.heap.size v5 c.xs) := ⟨ho5.mono (Below.size KW1.out)⟩
        obtain ⟨a5, c5, rfl⟩ := own_form ho5
        clear ho5 hbB
        refine hK.out _ _ (KCell.out W2 KW2.out) (fun hHeldX => ?_)
        clear hK K hHeldX
        have hHeld := KCell.out W2 KW2.out
        have KO2 : Kept (Own .u8 5 W2 wr.heap.size (.slice a5 c.xs.length c5) c.xs) := ⟨KO5.out⟩
        have hEnd := KEnd.out W2 a5 c5 KW2.out KO2.out
        refine wpAnyH_takeD (i := 13) (d := some 36) (v := .agg #[.string p, .slice a5 c.xs.length c5]) rfl rfl (by kernel_rfl) (by kernel_rfl) (by kernel_rfl) (fun _ _ _ h => h) (Or.inl ⟨by rfl, fun W hSw => by obtain ⟨hS0, hS1, hS2⟩ := hSw; go_simp⟩) (by assumption) ?_
        simp only [Act.put, List.setIfInBounds_toArray, List.set_cons_zero, List.set_cons_succ]
        obtain ⟨W3, hW3⟩ : ∃ W3, W2.alloc (.cells #[.string p, .slice a5 c.xs.length c5] 52) = W3 := ⟨_, rfl⟩
        rw [hW3] at hEnd
        obtain ⟨h31, h32, h33, h34⟩ := hEnd
        have KW3 : Kept (CC wr W3) := ⟨h31⟩
        refine wpAnyH_ready (rs := [14]) (by kernel_rfl) (by simp) ?_
        refine AllReadyH.cons (o := _) rfl (fun K hK => ?_) AllReadyH.nil
        rw [if_pos (by rfl)]
        go_simp
        refine hK.out _ _ (KCell.out W3 KW3.out) (fun hHeldX => ?_)
        clear hK K hHeldX
        refine wpAnyH_ready (rs := [15]) (by kernel_rfl) (by simp) ?_
        refine AllReadyH.cons (o := _) rfl (fun K hK => ?_) AllReadyH.nil
        rw [if_pos (by rfl)]
        refine wp_append_F _ _ rfl w1.heap.size (.slice la l.length lc) l rfl h32 (FlC.mk p (.slice a5 c.xs.length c5) c.xs) rfl W2.heap.size 1 rfl h33 (by omega) (by have := KB.out.size; have := Below.size KW3.out; omega) ?_
        intro v6 W4 hrow4 hg4
        obtain ⟨hC4, hR4⟩ := h34 v6 W4 hrow4 hg4
        obtain ⟨a6, c6, hv6⟩ := hR4.2.2.2.1.form
        obtain ⟨n6, hn6⟩ : ∃ n6, (l ++ [(FlC.mk p (.slice a5 c.xs.length c5) c.xs)]).length = n6 := ⟨_, rfl⟩
        rw [hn6] at hv6
        have KR4 := Kept.mk hR4
        rw [hv6] at KR4
        clear hR4 hrow4 hg4 hn6
        refine hK.out _ _ hC4 (fun hHeldX => ?_)
        clear hK K hHeldX
        rw [hv6]
        refine wpAnyH_takeD (i := 16) (d := some 5) (v := .slice a6 n6 c6) rfl rfl (by kernel_rfl) (by kernel_rfl) (by kernel_rfl) (fun _ _ _ h => h) (Or.inl ⟨by rfl, fun W hSw => by obtain ⟨hS0, hS1, hS2⟩ := hSw; go_simp⟩) (by assumption) ?_
        simp only [Act.put, List.setIfInBounds_toArray]
        refine wpAnyH_done (by kernel_rfl) ?_ _
        refine NoPanic.normal ?_
        clear hC4 hv6 hHeld
        go_wp2
        go_roundw
        case rel => exact ⟨k + 1, _, hlt, by go_num, KR4.out.1, KR4.out.2.1, KR4.out.2.2.1, KR4.out.2.2.2.1, KR4.out.2.2.2.2⟩
        case measure => simp [intOf]; omega
      · have hki : ¬ (k : Int) < (ps.length : Int) := by omega
        obtain rfl : k = ps.length := by omega
        rw [List.take_length] at hmap
        have KB := Kept.mk hb
        have KO := Kept.mk hof
        have KM := Kept.mk hmap
        clear hb hof hmap hky hsz
        go_wp2
        go_ret2
        exact ⟨_, l, by rw [Ker.out]; rfl, KO.out, by unfold FlL; rw [if_neg (by show ¬ S.dark = true; rw [Kk.out]; decide)]; exact ⟨ps, Kps.out, KM.out⟩, KB.out⟩
end Go.Proofs.YtegdadkejheagaaGreatDoor
