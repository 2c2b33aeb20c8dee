/-
  Walks: Crash.
-/
import Derived.Test.YtegdadkejheagaaGreatDoorFU0
namespace Go.Proofs.YtegdadkejheagaaGreatDoor
open Go.RowKit Go.WideMaps Go.Maps

/-- What a crash makes of a disk. -/
structure CrD (s : Ps) (cs : List Int) (s' : Ps) (ks ps : List ByteArray) : Prop where
  hks : KeysOk (fun q => if (s.C q).isEmpty then none else some (Value.bool true)) ks
  hps : KeysOk (nmV (svF s.C cs s.L 0 ks)) ps
  cri : CrI s.quota (crG (svF s.C cs s.L 0 ks) s.F cs ks.length ps).1 s'
/-- What Crash answers. -/
def CrE (w : World) (n : Nat) (S : St) (cs : List Int) (e : Ending) (w' : World) : Prop :=
  ∃ d' S' n' ks ps, ∃ B' : Nat → Prop, e = .returned (.tuple #[.pointer (some ⟨d', 0, none⟩), .int .i64 0]) ∧ Dk w' B' d' S' n' ∧ (∀ i, B' i → w.heap.size ≤ i) ∧ w.heap.size ≤ d' ∧ Below w.heap.size w w' ∧ n' ≤ n + n * S.m ∧ S'.m = 0 ∧ CrD S.ps cs S'.ps ks ps
theorem keys_ps {w : World} {B : Nat → Prop} {S : St} {n : Nat} (h : Bd w B S n) {ks : List ByteArray} (hk : KeysOk (rwV S.C) ks) : KeysOk (fun q => if (S.ps.C q).isEmpty then none else some (Value.bool true)) ks := by
  refine ⟨fun p => (hk.mem p).trans ?_, hk.nodup, hk.rise⟩
  show (rwV S.C p ≠ none) ↔ (if (((S.C p).map Prod.snd).getD []).isEmpty then none else some (Value.bool true)) ≠ none
  unfold rwV
  cases hC : S.C p with
  | none => simp
  | some x =>
    have hne := (h.rw p x.1 x.2 hC).1.ne
    simp [hne]
set_option maxRecDepth 100000 in
theorem crash_nil (v : Value) (w : World) : Calls Tryz.prog 10 #[.pointer none, v] w fun e w' => e = .returned (.tuple #[.pointer none, .int .i64 7]) ∧ w' = w := by
  go_enter Tryz.func10, Tryz.ntmps10
  go_wp2
  go_ret2
  exact ⟨rfl, rfl⟩
/-- Where the making of a disk behind a crash stands. -/
def CrW (w1 w5 wr : World) (B' : Nat → Prop) (cb ab : Nat) (v : Value) (cs : List Int) (mf : Option Nat) (nf : Nat) (N : ByteArray → Option Nat) (F : Nat → Option (List Int × Nat)) (kv : Value) (ps : List ByteArray) (q : Int) (d' i0 k : Nat) : Prop :=
  ∃ S' n', Dk wr B' d' S' n' ∧ n' ≤ k ∧ S'.m = 0 ∧ S'.bn ≠ none ∧ CrI q (crG N F cs i0 (ps.take k)).1 S'.ps ∧ Sv w1 wr cb ab v cs (crG N F cs i0 (ps.take k)).2 mf nf N kv ps ∧ sumL (crG N F cs i0 (ps.take k)).1 ≤ k * 2097152 ∧ w5.heap.size ≤ wr.heap.size
set_option maxRecDepth 100000 in
set_option maxHeartbeats 4000000 in
theorem crash_any (v : Value) (cs : List Int) {w : World} {B : Nat → Prop} {d n : Nat} {S : St} (h : Dk w B d S n) (hr : Rd .u8 anyB w v cs) (hA : AllB cs) (hnf : n + n * S.m ≤ 900000) :
    Calls Tryz.prog 10 #[.pointer (some ⟨d, 0, none⟩), v] w fun e w' => CrE w n S cs e w' := by
  have KD0 : Kept (Dk w (fun i => B i ∧ i < w.heap.size) d S n) := ⟨h.weak (fun i hi hb => ⟨hb, hi⟩) (Nat.le_refl _)⟩
  have KCh := Kept.mk (chooser_any v cs w hr hA)
  obtain ⟨a0, c0, rfl, -⟩ := hr
  clear h hA
  go_enter Tryz.func10, Tryz.ntmps10
  go_wp2_with fail
  refine Calls.mono KCh.out (fun e w1 hp => ?_)
  obtain ⟨rfl, hN1, hb1⟩ := hp
  have KN1 := Kept.mk hN1
  have KB1 := Kept.mk hb1
  have KD1 := Kept.mk (KD0.out.later hb1)
  have Kab : Kept (¬ (fun i => B i ∧ i < w.heap.size) (w.heap.size + 1)) := ⟨fun h => by have := h.2; omega⟩
  have KSu := Kept.mk (survivors_any KD1.out hN1 Kab.out hnf)
  obtain ⟨cb, hcb⟩ : ∃ cb, w.heap.size = cb := ⟨_, rfl⟩
  obtain ⟨ab, hab⟩ : ∃ ab, w.heap.size + 1 = ab := ⟨_, rfl⟩
  have Kcb : Kept (w.heap.size = cb ∧ w.heap.size + 1 = ab) := ⟨hcb, hab⟩
  rw [hab] at KN1 KSu Kab ⊢
  rw [hcb] at KN1 KSu ⊢
  clear hN1 hb1 KCh hcb hab
  go_wp2_with fail
  refine Calls.mono KSu.out (fun e w2 hp => ?_)
  obtain ⟨mf, ks, nf, kv0, rfl, hks, hsv2, hnf2, hkl⟩ := hp
  have KS2 := Kept.mk hsv2
  have Kks := Kept.mk hks
  have Knf2 : Kept (nf ≤ n + n * S.m) := ⟨by have := Nat.mul_le_mul_right S.m hkl; omega⟩
  have KD2 := Kept.mk (KD1.out.crash hsv2.fx Kab.out)
  have g0 := KD2.out.quota
  clear hks hsv2 KSu hnf2 hkl
  have KN0 : Kept (Dk (w2.alloc (.cells (newS S.quota).cs.toArray 59)) (fun i => i = w2.heap.size) w2.heap.size (newS S.quota) 0) := ⟨⟨Bk.new w2 _ _, rfl, new_bd _ _ _⟩⟩
  obtain ⟨w3, hw3⟩ : ∃ w3, w2.alloc (.cells (newS S.quota).cs.toArray 59) = w3 := ⟨_, rfl⟩
  have hw3' : w2.alloc (.cells #[.int .i64 S.quota, .int .i64 0, .map none, .map none, .map none, .map none, .int .i64 0, .int .i64 0, .bool false] 59) = w3 := hw3
  have hb3 : Below w2.heap.size w2 w3 := by rw [← hw3]; exact (Below.refl _ _).alloc (Nat.le_refl _) _
  have hs3 : w3.heap.size = w2.heap.size + 1 := by rw [← hw3]; simp
  rw [hw3] at KN0
  have KS3 := Kept.mk (KS2.out.later hb3)
  have Kd3 := Kept.mk hs3
  clear hw3 hb3 hs3
  obtain ⟨d', hd'⟩ : ∃ d', w2.heap.size = d' := ⟨_, rfl⟩
  rw [hd'] at KN0 Kd3
  have Kd' := Kept.mk hd'
  have KLa := Kept.mk (lay_any KN0.out)
  go_upto_region 6 with fail
  clear hw3' g0 hd'
  go_wp2_with fail
  refine Calls.mono KLa.out (fun e w4 hp => ?_)
  obtain ⟨rfl, S4, hd4, hps4, hbn4, -, -, hF4, hm4⟩ := hp
  have KD4 := Kept.mk hd4
  have KP4 : Kept (S4.ps = (newS S.quota).ps ∧ S4.bn ≠ none ∧ S4.m = 0) := ⟨hps4, hbn4, hm4⟩
  have KF4 := Kept.mk hF4
  have KS4 : Kept (Sv w1 w4 cb ab (.slice a0 cs.length c0) cs (0 + ks.length) mf nf (svF S.ps.C cs S.L 0 ks) kv0 ks) := ⟨KS3.out.put hF4 (fun i hi e => by have := KS2.out.fx.size; have := Kd'.out; omega) (fun e => by have := KS2.out.nx.a.lt; have := Kd'.out; omega) (fun b e => by
    have hm := KS2.out.mp
    rw [e] at hm
    have := hm.lt
    have := Kd'.out
    omega) (fun g hg => by
    have := ownsRow_lt KS2.out.ky hg
    have := Kd'.out
    omega) ⟨_, KN1.out⟩⟩
  have KK := Kept.mk (keysF_any KS4.out.mp (by have := Knf2.out; omega))
  clear hd4 hps4 hbn4 hF4 hm4 KLa
  go_wp2_with fail
  refine Calls.mono KK.out (fun e w5 hp => ?_)
  obtain ⟨kv, ps, rfl, hrow, hps, hpl, hb5⟩ := hp
  have KB5 := Kept.mk hb5
  have KS5 : Kept (Sv w1 w5 cb ab (.slice a0 cs.length c0) cs (0 + ks.length) mf nf (svF S.ps.C cs S.L 0 ks) kv ps) := ⟨{ KS4.out.later hb5 with ky := ownsRow_base_a hrow (Nat.zero_le _) }⟩
  have Kps := Kept.mk hps
  have Kpl := Kept.mk hpl
  have Krg : Kept (∀ g, kv.ownBlock = some g → w4.heap.size ≤ g ∧ g < w5.heap.size) := ⟨fun g hg => ⟨by
    rcases hrow.2 with ⟨h1, -⟩ | ⟨g', cap, cur, h1, h2, -⟩
    · subst h1; cases hg
    · subst h1
      simp only [Value.ownBlock, Option.some.injEq] at hg
      omega, ownsRow_lt hrow hg⟩⟩
  obtain ⟨ka, kc, rfl⟩ := key_form hrow
  clear hrow hps hpl hb5 KK
  obtain ⟨B', hB'⟩ : ∃ B' : Nat → Prop, B' = fun i => (d' ≤ i ∧ i < w4.heap.size) ∨ w5.heap.size ≤ i := ⟨_, rfl⟩
  have KBi : Kept (∀ i, B' i ↔ (d' ≤ i ∧ i < w4.heap.size) ∨ w5.heap.size ≤ i) := ⟨fun i => by rw [hB']⟩
  have KD5 : Kept (Dk w5 B' d' S4 0) := ⟨(KD4.out.weak (fun i hi hb => by
    rw [KBi.out]
    refine .inl ⟨?_, hi⟩
    rcases hb with hb | hb
    · omega
    · have := Kd3.out; omega) (Nat.le_refl _)).later KB5.out⟩
  have KCr5 : Kept (CrW w1 w5 w5 B' cb ab (.slice a0 cs.length c0) cs mf nf (svF S.ps.C cs S.L 0 ks) S.ps.F (.slice ka ps.length kc) ps S.quota d' ks.length 0) := ⟨S4, 0, KD5.out, Nat.le_refl _, KP4.out.2.2, KP4.out.2.1, by rw [KP4.out.1]; exact cri_new S.quota, by have h := KS5.out; rw [Nat.zero_add] at h; exact h, Nat.zero_le _, Nat.le_refl _⟩
  have hpi0 : (ps.length : Int) ≤ 900000 := by have := Kpl.out; have := Knf2.out; omega
  obtain ⟨N, hN⟩ : ∃ N, svF S.ps.C cs S.L 0 ks = N := ⟨_, rfl⟩
  have KNe := Kept.mk hN
  rw [hN] at KCr5 Kps
  clear hB' hN
  go_wp2
  go_loopw [10, 11, 12, 31] (fun _ _ _ kx wr => ∃ k : Nat, k ≤ ps.length ∧ kx = .int .i64 k ∧ CrW w1 w5 wr B' cb ab (.slice a0 cs.length c0) cs mf nf N S.ps.F (.slice ka ps.length kc) ps S.quota d' ks.length k) (fun _ _ _ kx _ => ps.length - (intOf kx).toNat)
  case atStart => exact ⟨0, Nat.zero_le _, rfl, KCr5.out⟩
  case round =>
    obtain ⟨k, hk, rfl, S', n', hd, hn', hm', hbn', hcri, hsv, hsum, hsz⟩ := hrel
    by_cases hlt : k < ps.length
    · have hki : (k : Int) < (ps.length : Int) := by omega
      have hdo := KD1.out.crash hsv.fx Kab.out
      obtain ⟨g0, c0', hkv, hkc⟩ := key_cell hsv.ky hlt
      injection hkv with hk1 _ hk3
      subst hk1 hk3
      obtain ⟨p, hp⟩ : ∃ p, ps[k]'hlt = p := ⟨_, rfl⟩
      rw [hp] at hkc
      have hpm : nmV N p ≠ none := (Kps.out.mem p).1 (by rw [← hp]; exact List.getElem_mem hlt)
      obtain ⟨f0, hf0⟩ : ∃ f0, N p = some f0 := by
        cases hx : N p with
        | none => exact absurd (by unfold nmV; rw [hx]; rfl) hpm
        | some x => exact ⟨x, rfl⟩
      have hps : p.size ≤ 200 := sv_size KD0.out.bd cs ks S.L 0 (fun r hr => KD0.out.bd.kz r (.inr (.inl hr))) p (by rw [KNe.out, hf0]; exact fun h => nomatch h)
      obtain ⟨c, hc⟩ : ∃ c, S.F f0 = some c := sv_ex KD0.out.bd cs ks S.L 0 KD0.out.bd.lF p f0 (by rw [KNe.out]; exact hf0)
      have hlk := hsv.mp.look Tryz.underlying53 (zero_ptr wr) (s := p) (by unfold maxLen; omega)
      rw [nmV_get, hf0] at hlk
      have KRe := Kept.mk (remains_any (hdo.bd.fl f0 c hc) hsv.nx)
      have KTk : Kept (crG N S.ps.F cs ks.length (ps.take (k + 1)) = ((crG N S.ps.F cs ks.length (ps.take k)).1 ++ [(p, rmL c.xs c.s cs (crG N S.ps.F cs ks.length (ps.take k)).2)], rmN c.xs c.s (crG N S.ps.F cs ks.length (ps.take k)).2)) := ⟨by
        rw [List.take_add_one, List.getElem?_eq_getElem hlt, hp]
        show crG _ _ _ _ (ps.take k ++ [p]) = _
        rw [crG_snoc]
        unfold crO
        rw [hf0]
        show (match S.ps.F f0 with | none => _ | some x => _) = _
        have e : S.ps.F f0 = some (c.xs, c.s) := by show (S.F f0).map _ = _; rw [hc]; rfl
        rw [e]⟩
      obtain ⟨G, hG⟩ : ∃ G, crG N S.ps.F cs ks.length (ps.take k) = G := ⟨_, rfl⟩
      rw [hG] at hcri hsv hsum KTk KRe
      have hple := rmL_le (hdo.bd.fl f0 c hc).le cs G.2
      have hbig := (hdo.bd.fl f0 c hc).big
      have KAl := Kept.mk (rmL_all (hdo.bd.fl f0 c hc).all cs G.2 (s := c.s))
      obtain ⟨ys, hys⟩ : ∃ ys, rmL c.xs c.s cs G.2 = ys := ⟨_, rfl⟩
      obtain ⟨i', hi'⟩ : ∃ i', rmN c.xs c.s G.2 = i' := ⟨_, rfl⟩
      rw [hys] at KTk KRe hple KAl
      rw [hi'] at KTk KRe
      have KD := Kept.mk hd
      have KCri := Kept.mk hcri
      have KSv := Kept.mk hsv
      have KSu := Kept.mk hsum
      have Ksz := Kept.mk hsz
      have Kn' := Kept.mk (And.intro hn' (And.intro hm' hbn'))
      have Kpn : Kept (p ∉ (ps.take k)) := ⟨fun hm => by
        obtain ⟨j, hj, hjp⟩ := List.mem_take_iff_getElem.1 hm
        have h2 := (List.pairwise_iff_getElem.1 Kps.out.nodup) j k (by omega) hlt (by omega)
        rw [hp] at h2
        exact h2 hjp⟩
      have KG := Kept.mk hG
      clear hd hn' hm' hbn' hcri hsv hsum hsz hG hys hi' hc hf0 hpm hp hdo
      unfold ptrV at hlk
      have Kabd : Kept (¬ B' ab) := ⟨fun h => by
        rcases (KBi.out ab).1 h with h | h
        · have := Kcb.out; have := KS2.out.nx.a.lt; have := Kd'.out; omega
        · have := KS5.out.nx.a.lt; omega⟩
      go_wp2_with fail
      refine Calls.mono KRe.out (fun e w6 hp => ?_)
      obtain ⟨v5, rfl, ho6, hn6, hF6⟩ := hp
      have KD6 := Kept.mk (KD.out.crash hF6 Kabd.out)
      have KS6 := Kept.mk (KSv.out.step hn6 hF6)
      have Ks6 := Kept.mk hF6.size
      obtain ⟨a5, c5, hv5⟩ := own_form ho6
      obtain ⟨ly, hly⟩ : ∃ ly, ys.length = ly := ⟨_, rfl⟩
      have Kly := Kept.mk hly
      rw [hly] at hv5 hple
      have KO6 := Kept.mk ho6
      have Kfl : Kept (S'.F w6.heap.size = none) := ⟨KD6.out.bd.lt (Nat.le_refl _)⟩
      obtain ⟨f, hf⟩ : ∃ f, w6.heap.size = f := ⟨_, rfl⟩
      have Kf := Kept.mk hf
      rw [hf] at Kfl
      obtain ⟨w7, hw7⟩ : ∃ w7, w6.alloc (.cells #[v5, .int .i64 (ly : Int)] 73) = w7 := ⟨_, rfl⟩
      have hk7 : Bk w7 f 73 [v5, .int .i64 (ly : Int)] := by rw [← hw7, ← hf]; exact Bk.new w6 _ _
      have hb7 : Below w6.heap.size w6 w7 := by rw [← hw7]; exact (Below.refl _ _).alloc (Nat.le_refl _) _
      have KFl7 : Kept (FileAt w7 B' f ⟨v5, ys, ly⟩) := ⟨⟨hk7, (KBi.out f).2 (.inr (by have := Ksz.out; have := Ks6.out; omega)), (KO6.out.mono (Nat.zero_le _)).later hb7 (Nat.le_refl _), fun g hg => (KBi.out g).2 (.inr (by have := (KO6.out.lt g hg).1; have := Ksz.out; omega)), KAl.out, by show ly ≤ ys.length; omega, by show ys.length ≤ 2097152; omega⟩⟩
      have KD7a := Kept.mk (KD6.out.later hb7)
      have KD7 : Kept (Dk w7 B' d' { S' with F := upd S'.F f (some ⟨v5, ys, ly⟩) } n') := ⟨⟨KD7a.out.blk, KD7a.out.inB, KD7a.out.bd.addFile Kfl.out KFl7.out (fun r hr g c hg hcr => by
        have h1 := (KO6.out.lt r hr).1
        have h2 := ownsRow_lt (KD.out.bd.fl g c hg).own hcr
        omega)⟩⟩
      have KS7 := Kept.mk (KS6.out.later hb7)
      have hs7 : w7.heap.size = f + 1 := by rw [← hw7, ← hf]; simp
      have Ks7 := Kept.mk hs7
      subst hv5
      clear ho6 hn6 hF6 hb7 hk7 hs7 KRe hlk hkc hly
      go_upto_region 12 with fail
      obtain ⟨bn, hbn⟩ : ∃ bn, S'.bn = some bn := by
        cases hx : S'.bn with
        | none => exact absurd hx Kn'.out.2.2
        | some b => exact ⟨b, rfl⟩
      obtain ⟨bl, hbl⟩ : ∃ bl, S'.bl = some bl := by
        cases hx : S'.bl with
        | none => exact absurd (KD.out.bd.nl.1.2 hx) Kn'.out.2.2
        | some b => exact ⟨b, rfl⟩
      have Kbn := Kept.mk hbn
      have Kbl := Kept.mk hbl
      have hS7 : w7.cell? ⟨d', 2, none⟩ = some (.map (some bn)) ∧ w7.cell? ⟨d', 3, none⟩ = some (.map (some bl)) := ⟨by rw [KD7.out.names]; show some (Value.map S'.bn) = _; rw [hbn], by rw [KD7.out.lasting]; show some (Value.map S'.bl) = _; rw [hbl]⟩
      refine wp_region_noPanic ?_
      refine wp_region_held_drew (S := fun W => W.cell? ⟨d', 2, none⟩ = some (.map (some bn)) ∧ W.cell? ⟨d', 3, none⟩ = some (.map (some bl))) (by kernel_rfl) hS7 (fun hHeld => ?_)
      refine wpAnyH_takeD (i := 0) (d := some 45) (v := .pointer (some ⟨d', 0, none⟩)) rfl rfl (by kernel_rfl) (by kernel_rfl) (by kernel_rfl) (fun _ _ _ h => h) (Or.inl ⟨by rfl, fun W hSw => by obtain ⟨hS0, hS1⟩ := hSw; go_simp⟩) (by assumption) ?_
      simp only [Act.put, List.setIfInBounds_toArray, List.set_cons_zero, List.set_cons_succ]
      refine wpAnyH_takeD (i := 1) (d := some 46) (v := .pointer (some ⟨d', 0, none⟩)) rfl rfl (by kernel_rfl) (by kernel_rfl) (by kernel_rfl) (fun _ _ _ h => h) (Or.inl ⟨by rfl, fun W hSw => by obtain ⟨hS0, hS1⟩ := hSw; go_simp⟩) (by assumption) ?_
      simp only [Act.put, List.setIfInBounds_toArray, List.set_cons_zero, List.set_cons_succ]
      refine wpAnyH_takeD (i := 2) (d := some 47) (v := .pointer (some ⟨d', 2, none⟩)) rfl rfl (by kernel_rfl) (by kernel_rfl) (by kernel_rfl) (fun _ _ _ h => h) (Or.inl ⟨by rfl, fun W hSw => by obtain ⟨hS0, hS1⟩ := hSw; go_simp⟩) (by assumption) ?_
      simp only [Act.put, List.setIfInBounds_toArray, List.set_cons_zero, List.set_cons_succ]
      refine wpAnyH_takeD (i := 3) (d := some 48) (v := .map (some bn)) rfl rfl (by kernel_rfl) (by kernel_rfl) (by kernel_rfl) (fun _ _ _ h => h) (Or.inl ⟨by rfl, fun W hSw => by obtain ⟨hS0, hS1⟩ := hSw; go_simp⟩) (by assumption) ?_
      simp only [Act.put, List.setIfInBounds_toArray, List.set_cons_zero, List.set_cons_succ]
      refine wpAnyH_takeD (i := 4) (d := some 49) (v := .string p) rfl rfl (by kernel_rfl) (by kernel_rfl) (by kernel_rfl) (fun _ _ _ h => h) (Or.inl ⟨by rfl, fun W hSw => by obtain ⟨hS0, hS1⟩ := hSw; go_simp⟩) (by assumption) ?_
      simp only [Act.put, List.setIfInBounds_toArray, List.set_cons_zero, List.set_cons_succ]
      refine wpAnyH_takeD (i := 5) (d := some 50) (v := .pointer (some ⟨d', 0, none⟩)) rfl rfl (by kernel_rfl) (by kernel_rfl) (by kernel_rfl) (fun _ _ _ h => h) (Or.inl ⟨by rfl, fun W hSw => by obtain ⟨hS0, hS1⟩ := hSw; go_simp⟩) (by assumption) ?_
      simp only [Act.put, List.setIfInBounds_toArray, List.set_cons_zero, List.set_cons_succ]
      refine wpAnyH_takeD (i := 6) (d := some 51) (v := .pointer (some ⟨d', 0, none⟩)) rfl rfl (by kernel_rfl) (by kernel_rfl) (by kernel_rfl) (fun _ _ _ h => h) (Or.inl ⟨by rfl, fun W hSw => by obtain ⟨hS0, hS1⟩ := hSw; go_simp⟩) (by assumption) ?_
      simp only [Act.put, List.setIfInBounds_toArray, List.set_cons_zero, List.set_cons_succ]
      refine wpAnyH_takeD (i := 7) (d := some 52) (v := .pointer (some ⟨d', 3, none⟩)) rfl rfl (by kernel_rfl) (by kernel_rfl) (by kernel_rfl) (fun _ _ _ h => h) (Or.inl ⟨by rfl, fun W hSw => by obtain ⟨hS0, hS1⟩ := hSw; go_simp⟩) (by assumption) ?_
      simp only [Act.put, List.setIfInBounds_toArray, List.set_cons_zero, List.set_cons_succ]
      refine wpAnyH_takeD (i := 8) (d := some 53) (v := .map (some bl)) rfl rfl (by kernel_rfl) (by kernel_rfl) (by kernel_rfl) (fun _ _ _ h => h) (Or.inl ⟨by rfl, fun W hSw => by obtain ⟨hS0, hS1⟩ := hSw; go_simp⟩) (by assumption) ?_
      simp only [Act.put, List.setIfInBounds_toArray, List.set_cons_zero, List.set_cons_succ]
      refine wpAnyH_takeD (i := 9) (d := some 54) (v := .string p) rfl rfl (by kernel_rfl) (by kernel_rfl) (by kernel_rfl) (fun _ _ _ h => h) (Or.inl ⟨by rfl, fun W hSw => by obtain ⟨hS0, hS1⟩ := hSw; go_simp⟩) (by assumption) ?_
      simp only [Act.put, List.setIfInBounds_toArray, List.set_cons_zero, List.set_cons_succ]
      refine wpAnyH_takeD (i := 10) (d := some 55) (v := .pointer (some ⟨f, 0, none⟩)) rfl rfl (by kernel_rfl) (by kernel_rfl) (by kernel_rfl) (fun _ _ _ h => h) (Or.inl ⟨by rfl, fun W hSw => by obtain ⟨hS0, hS1⟩ := hSw; go_simp⟩) (by assumption) ?_
      simp only [Act.put, List.setIfInBounds_toArray, List.set_cons_zero, List.set_cons_succ]
      refine wpAnyH_takeD (i := 11) (d := some 56) (v := .pointer (some ⟨f, 0, none⟩)) rfl rfl (by kernel_rfl) (by kernel_rfl) (by kernel_rfl) (fun _ _ _ h => h) (Or.inl ⟨by rfl, fun W hSw => by obtain ⟨hS0, hS1⟩ := hSw; go_simp⟩) (by assumption) ?_
      simp only [Act.put, List.setIfInBounds_toArray, List.set_cons_zero, List.set_cons_succ]
      clear hbn hbl
      obtain ⟨w8, hw8⟩ : ∃ w8, w7.drew = w8 := ⟨_, rfl⟩
      have hb8 : Below w7.heap.size w7 w8 := by rw [← hw8]; exact (Below.refl _ _).drew
      rw [hw8]
      have KD8 := Kept.mk (KD7.out.later hb8)
      have hMN := KD8.out.bd.mN.at Kbn.out
      have hML := KD8.out.bd.mL.at Kbl.out
      have Ksp : Kept (bn ≠ bl ∧ bn ≠ d' ∧ bl ≠ d') := ⟨⟨fun e => by subst e; exact (KD8.out.bd.sp bn).1 Kbn.out |>.1 Kbl.out, fun e => by subst e; exact hMN.notBk KD8.out.blk, fun e => by subst e; exact hML.notBk KD8.out.blk⟩⟩
      have hnn : n' < maxLen := by unfold maxLen; have := Kn'.out.1; omega
      have hpm : p.size ≤ maxLen := by unfold maxLen; omega
      obtain ⟨x1, st1, w9, hE1, hF9, hs9, hT1⟩ := hMN.entry hnn hpm
      obtain ⟨w10, hU1, hN10, hF10, hs10⟩ := hT1 w9 (.pointer (some ⟨f, 0, none⟩)) rfl
      have hFa := hF9.trans hF10 (fun _ _ h => h)
      have hML10 := hML.far (w' := w10) (fun b e => by injection e with e; subst e; exact hFa.block _ hML.lt (fun e => Ksp.out.1 e.symm)) (Nat.le_refl _)
      obtain ⟨x2, st2, w11, hE2, hF11, hs11, hT2⟩ := hML10.entry hnn hpm
      obtain ⟨w12, hU2, hL12, hF12, hs12⟩ := hT2 w11 (.pointer (some ⟨f, 0, none⟩)) rfl
      have Kcell : Kept (∀ (g : Nat) (W V : World), Fx (fun i => i = g) W V → g ≠ d' → Bk W d' 59 (St.cs { S' with F := upd S'.F f (some ⟨.slice a5 ly c5, ys, ly⟩) }) → Bk V d' 59 (St.cs { S' with F := upd S'.F f (some ⟨.slice a5 ly c5, ys, ly⟩) }) ∧ (V.cell? ⟨d', 2, none⟩ = some (.map (some bn)) ∧ V.cell? ⟨d', 3, none⟩ = some (.map (some bl)))) := ⟨fun g W V hF hg hB => by
        have hB2 := hB.far (hF.block d' hB.lt (fun e => hg e.symm))
        refine ⟨hB2, ?_, ?_⟩
        · rw [hB2.cell 2 _ rfl]; show some (Value.map S'.bn) = _; rw [Kbn.out]
        · rw [hB2.cell 3 _ rfl]; show some (Value.map S'.bl) = _; rw [Kbl.out]⟩
      have c9 := Kcell.out bn _ _ hF9 Ksp.out.2.1 KD8.out.blk
      have c10 := Kcell.out bn _ _ hF10 Ksp.out.2.1 c9.1
      have c11 := Kcell.out bl _ _ hF11 Ksp.out.2.2 c10.1
      have c12 := Kcell.out bl _ _ hF12 Ksp.out.2.2 c11.1
      have hFb := hF11.trans hF12 (fun _ _ h => h)
      have hN12 := hN10.far (w' := w12) (fun b e => by injection e with e; subst e; exact hFb.block _ hN10.lt Ksp.out.1) (Nat.le_refl _)
      have hF8 : Fx (fun i => i = bn ∨ i = bl) w8 w12 := (hFa.weak (fun _ _ h => Or.inl h)).trans hFb (fun _ _ h => Or.inr h)
      have KN12 := Kept.mk hN12
      have KL12 := Kept.mk hL12
      have KF8 := Kept.mk hF8
      have Kb12 := Kept.mk c12.1
      have Ks12 : Kept (w12.heap.size = w8.heap.size) := ⟨by omega⟩
      have Kc9 := Kept.mk c9.2
      have Kc10 := Kept.mk c10.2
      have Kc11 := Kept.mk c11.2
      have Kc12 := Kept.mk c12.2
      have hB8 := KD7.out.bd
      clear hF9 hF10 hF11 hF12 hFa hFb hN10 hN12 hL12 hF8 c9 c10 c11 c12 hs9 hs10 hs11 hs12 hT1 hT2 hML10 hMN hML hB8 Kcell
      clear hb8
      refine wpAnyH_ready (rs := [12]) (by kernel_rfl) (by simp) ?_
      refine AllReadyH.cons (o := _) rfl (fun K hK => ?_) AllReadyH.nil
      rw [if_pos (by rfl)]
      go_simp
      refine hK.out _ _ Kc9.out (fun hHeld2 => ?_)
      clear hK K
      refine wpAnyH_takeD (i := 13) (d := some 58) (v := .int .i64 (st1 : Int)) rfl rfl (by kernel_rfl) (by kernel_rfl) (by kernel_rfl) (fun _ _ _ h => h) (Or.inl ⟨by rfl, fun W hSw => by obtain ⟨hS0, hS1⟩ := hSw; go_simp⟩) (by assumption) ?_
      simp only [Act.put, List.setIfInBounds_toArray, List.set_cons_zero, List.set_cons_succ]
      refine wpAnyH_ready (rs := [14]) (by kernel_rfl) (by simp) ?_
      refine AllReadyH.cons (o := _) rfl (fun K hK => ?_) AllReadyH.nil
      rw [if_pos (by rfl)]
      go_simp
      refine hK.out _ _ Kc10.out (fun hHeld3 => ?_)
      clear hK K
      refine wpAnyH_ready (rs := [15]) (by kernel_rfl) (by simp) ?_
      refine AllReadyH.cons (o := _) rfl (fun K hK => ?_) AllReadyH.nil
      rw [if_pos (by rfl)]
      go_simp
      refine hK.out _ _ Kc11.out (fun hHeld4 => ?_)
      clear hK K
      refine wpAnyH_takeD (i := 16) (d := some 60) (v := .int .i64 (st2 : Int)) rfl rfl (by kernel_rfl) (by kernel_rfl) (by kernel_rfl) (fun _ _ _ h => h) (Or.inl ⟨by rfl, fun W hSw => by obtain ⟨hS0, hS1⟩ := hSw; go_simp⟩) (by assumption) ?_
      simp only [Act.put, List.setIfInBounds_toArray, List.set_cons_zero, List.set_cons_succ]
      refine wpAnyH_ready (rs := [17]) (by kernel_rfl) (by simp) ?_
      refine AllReadyH.cons (o := _) rfl (fun K hK => ?_) AllReadyH.nil
      rw [if_pos (by rfl)]
      go_simp
      refine hK.out _ _ Kc12.out (fun hHeld5 => ?_)
      clear hK K
      refine wpAnyH_done (by kernel_rfl) ?_ _
      refine NoPanic.normal ?_
      clear hHeld2 hHeld3 hHeld4 hHeld5 hE1 hU1 hE2 hU2 hHeld hS7
      have KSf := Kept.mk (ps_setF S' f ⟨.slice a5 ly c5, ys, ly⟩)
      have hBn : ∀ i, i = bn ∨ i = bl → B' i := fun i hi => by
        rcases hi with rfl | rfl
        · exact KD.out.bd.bB _ (.inl Kbn.out)
        · exact KD.out.bd.bB _ (.inr (.inl Kbl.out))
      have hBd : ∀ i, i = d' → B' i := fun i hi => by subst hi; exact KD.out.inB
      have n1 : ∀ i, i < w1.heap.size → ¬ B' i := fun i hi hb => by
        rcases (KBi.out i).1 hb with h | h
        · have := KS2.out.fx.size; have := Kd'.out; omega
        · have := KS5.out.fx.size; omega
      have n3 : ∀ b, mf = some b → ¬ B' b := fun b e hb => by
        have hm := KS2.out.mp
        rw [e] at hm
        have h2 := hm.lt
        have := Kd'.out
        rcases (KBi.out b).1 hb with h | h
        · omega
        · have := KB5.out.size; have := KF4.out.size; have := Kd3.out; omega
      have n4 : ∀ g, (Value.slice (some ⟨g0, 0, none⟩) ps.length kc).ownBlock = some g → ¬ B' g := fun g hg hb => by
        have := Krg.out g hg
        rcases (KBi.out g).1 hb with h | h <;> omega
      have hx : ∀ (M : ByteArray → Option Nat), (∀ r g, M r = some g → ∃ c, S'.F g = some c) → ∀ r g, upd M p (some f) r = some g → ∃ c, upd S'.F f (some (⟨.slice a5 ly c5, ys, ly⟩ : FileC)) g = some c := fun M hM r g hr => by
        by_cases e : g = f
        · subst e; exact ⟨_, upd_same _ _ _⟩
        · rw [upd_other _ _ e]
          unfold upd at hr
          split at hr
          · injection hr with hr; exact absurd hr.symm e
          · exact hM r g hr
      have hz : ∀ r, upd S'.N p (some f) r ≠ none ∨ upd S'.L p (some f) r ≠ none → r.size ≤ 200 := fun r hr => by
        by_cases e : r = p
        · subst e; exact hps
        · rw [upd_other _ _ e, upd_other _ _ e] at hr
          rcases hr with h | h
          · exact KD.out.bd.kz r (.inl h)
          · exact KD.out.bd.kz r (.inr (.inl h))
      have KD12 : Kept (Dk w12 B' d' { S' with F := upd S'.F f (some ⟨.slice a5 ly c5, ys, ly⟩), N := upd S'.N p (some f), L := upd S'.L p (some f) } (n' + 1)) := ⟨⟨Kb12.out, KD8.out.inB, KD8.out.bd.setNL Kbn.out Kbl.out _ _ (by rw [← nmV_upd]; exact KN12.out) (by rw [← nmV_upd]; exact KL12.out) KF8.out (hx _ KD.out.bd.nF) (hx _ KD.out.bd.lF) hz⟩⟩
      have hw78 : w7.heap.size ≤ w8.heap.size := by rw [← hw8]; exact Nat.le_refl _
      have KS8 : Kept (Sv w1 w8 cb ab (.slice a0 cs.length c0) cs i' mf nf N (.slice (some ⟨g0, 0, none⟩) ps.length kc) ps) := ⟨KS7.out.later (by rw [← hw8]; exact (Below.refl _ _).drew)⟩
      have KS12 := Kept.mk (KS8.out.put KF8.out (fun i hi e => n1 i hi (hBn i e)) (fun e => Kabd.out (hBn _ e)) (fun b e e2 => n3 b e (hBn _ e2)) (fun g hg e => n4 g hg (hBn _ e)) ⟨_, KN1.out⟩)
      have hu := KCri.out.used
      have hus : S'.used = (sumL G.1 : Nat) := hu
      have hsl := KSu.out
      have q1 : w12.cell? ⟨d', 1, none⟩ = some (.int .i64 S'.used) := KD12.out.used
      have f1 := KD12.out.blk.frozen 1
      have hkb : sumL G.1 ≤ 900000 * 2097152 := Nat.le_trans hsl (Nat.mul_le_mul_right _ (by omega))
      have e13 : IntKind.i64.wrap (S'.used + (ly : Int)) = S'.used + (ly : Int) := wr64 (by omega) (by omega)
      have KD13 : Kept (Dk (w12.setCell ⟨d', 1, none⟩ (.int .i64 (S'.used + (ly : Int)))) B' d' { S' with F := upd S'.F f (some ⟨.slice a5 ly c5, ys, ly⟩), N := upd S'.N p (some f), L := upd S'.L p (some f), used := S'.used + (ly : Int) } (n' + 1)) := ⟨KD12.out.setCell 1 _ rfl (fun h => h.fields S'.quota (S'.used + (ly : Int)) S'.last S'.count S'.dark)⟩
      have hF13 := Fx.setCell w12 d' 1 (.int .i64 (S'.used + (ly : Int)))
      have KS13 := Kept.mk (KS12.out.put hF13 (fun i hi e => n1 i hi (hBd i e)) (fun e => Kabd.out (hBd _ e)) (fun b e e2 => n3 b e (hBd _ e2)) (fun g hg e => n4 g hg (hBd _ e)) ⟨_, KN1.out⟩)
      have KCr13 : Kept (CrI S.quota (G.1 ++ [(p, ys)]) { S' with F := upd S'.F f (some ⟨.slice a5 ly c5, ys, ly⟩), N := upd S'.N p (some f), L := upd S'.L p (some f), used := S'.used + (ly : Int) : St }.ps) := ⟨by
        have h := KCri.out.put (p := p) (xs := ys) (f := f) (fun hm => Kpn.out (crG_keys cs ks.length _ p (by rw [KG.out]; exact hm))) (by show (S'.F f).map _ = none; rw [Kfl.out]; rfl) (fun r g hr => by
          obtain ⟨c', hc'⟩ := KD.out.bd.nF r g hr
          show (S'.F g).map _ ≠ none
          rw [hc']
          exact fun h => nomatch h)
        rw [Kly.out] at h
        have e3 : { S' with F := upd S'.F f (some ⟨.slice a5 ly c5, ys, ly⟩), N := upd S'.N p (some f), L := upd S'.L p (some f), used := S'.used + (ly : Int) : St }.ps = { St.ps { S' with F := upd S'.F f (some ⟨.slice a5 ly c5, ys, ly⟩) } with used := S'.used + (ly : Int), N := upd S'.N p (some f), L := upd S'.L p (some f) } := rfl
        rw [e3, KSf.out]
        exact h⟩
      have Ksm : Kept (sumL (G.1 ++ [(p, ys)]) ≤ (k + 1) * 2097152) := ⟨by rw [sumL_snoc, Kly.out, Nat.add_mul]; omega⟩
      have Ks13 : Kept (w5.heap.size ≤ (w12.setCell ⟨d', 1, none⟩ (.int .i64 (S'.used + (ly : Int)))).heap.size) := ⟨by
        have := hF13.size
        have := Ks12.out
        have := Ks7.out
        have := Kf.out
        have := Ks6.out
        have := Ksz.out
        omega⟩
      obtain ⟨w13, hw13⟩ : ∃ w13, w12.setCell ⟨d', 1, none⟩ (.int .i64 (S'.used + (ly : Int))) = w13 := ⟨_, rfl⟩
      rw [hw13] at KD13 KS13 Ks13
      clear hBn hBd n1 n3 n4 hx hz hw78 hu hus hsl hkb hF13 hw8
      go_wp2
      go_roundw
      case rel => exact ⟨k + 1, hlt, by go_num, _, n' + 1, KD13.out, by have := Kn'.out.1; omega, Kn'.out.2.1, Kn'.out.2.2, by rw [KTk.out]; exact KCr13.out, by rw [KTk.out]; exact KS13.out, by rw [KTk.out]; exact Ksm.out, Ks13.out⟩
      case measure => simp [intOf]; omega
    · have hki : ¬ (k : Int) < (ps.length : Int) := by omega
      obtain rfl : k = ps.length := by omega
      rw [List.take_length] at hcri hsv
      have KD := Kept.mk hd
      have KCri := Kept.mk hcri
      have KSv := Kept.mk hsv
      have Kn' := Kept.mk (And.intro hn' hm')
      clear hd hn' hm' hcri hsv hsum
      go_wp2
      go_ret2
      have e1 := Kcb.out
      have e2 := Kd'.out
      have e3 := KS2.out.fx.size
      have e4 := KB1.out.size
      refine ⟨d', S', n', ks, ps, B', rfl, KD.out, fun i hi => ?_, by omega, KB1.out.trans (KSv.out.fx.below KB1.out.size (fun i hi e => by omega)), by have := Kpl.out; have := Knf2.out; have := Kn'.out.1; omega, Kn'.out.2, keys_ps KD0.out.bd Kks.out, ?_, ?_⟩
      · rcases (KBi.out i).1 hi with h | h
        · omega
        · have := KB5.out.size
          have := KF4.out.size
          have := Kd3.out
          omega
      · show KeysOk (nmV (svF S.ps.C cs S.L 0 ks)) ps
        rw [KNe.out]; exact Kps.out
      · show CrI S.quota (crG (svF S.ps.C cs S.L 0 ks) S.ps.F cs ks.length ps).1 S'.ps
        rw [KNe.out]; exact KCri.out
end Go.Proofs.YtegdadkejheagaaGreatDoor
