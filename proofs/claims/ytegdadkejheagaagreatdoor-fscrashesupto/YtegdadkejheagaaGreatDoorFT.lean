/-
  Walks: which names are there behind a crash.
-/
import Derived.Test.YtegdadkejheagaaGreatDoorFS
namespace Go.Proofs.YtegdadkejheagaaGreatDoor
open Go.RowKit Go.WideMaps Go.Maps

/-- The changes of one folder that have been made. -/
def svO (C : ByteArray → List Chg) (cs : List Int) (s : (ByteArray → Option Nat) × Nat) (q : ByteArray) : (ByteArray → Option Nat) × Nat :=
  (((C q).take ((chs cs s.2).toNat % ((C q).length + 1))).foldl apl s.1, s.2 + 1)
def svG (C : ByteArray → List Chg) (cs : List Int) (N : ByteArray → Option Nat) (i : Nat) (ks : List ByteArray) : (ByteArray → Option Nat) × Nat := ks.foldl (svO C cs) (N, i)
def svF (C : ByteArray → List Chg) (cs : List Int) (N : ByteArray → Option Nat) (i : Nat) (ks : List ByteArray) : ByteArray → Option Nat := (svG C cs N i ks).1
theorem svG_snd (C : ByteArray → List Chg) (cs : List Int) : ∀ (ks : List ByteArray) (N : ByteArray → Option Nat) (i : Nat), (svG C cs N i ks).2 = i + ks.length
  | [], _, _ => rfl
  | q :: ks, N, i => by
    show (svG C cs _ (i + 1) ks).2 = _
    rw [svG_snd C cs ks]
    simp
    omega
theorem svF_snoc (C : ByteArray → List Chg) (cs : List Int) (N : ByteArray → Option Nat) (i : Nat) (ks : List ByteArray) (q : ByteArray) : svF C cs N i (ks ++ [q]) = ((C q).take ((chs cs (i + ks.length)).toNat % ((C q).length + 1))).foldl apl (svF C cs N i ks) := by
  unfold svF svG
  rw [List.foldl_append]
  show (svO C cs (svG C cs N i ks) q).1 = _
  unfold svO
  rw [svG_snd]
  rfl
set_option maxRecDepth 100000 in
theorem mapClone_any {w : World} {mb : Option Nat} {n : Nat} {f : ByteArray → Option Value} (h : MapAt w mb n f) :
    Calls Tryz.prog 51 #[.map mb] w fun e w' => ∃ mf, e = .returned (.map mf) ∧ MapAt w' mf n f ∧ (mb = none ↔ mf = none) ∧ (∀ b, mf = some b → w.heap.size ≤ b) ∧ Below w.heap.size w w' := by
  cases mb with
  | none =>
    refine Calls.mono (AnyW.maps_Clone_nil Tryz.cloneM w) (fun e w' hp => ?_)
    obtain ⟨rfl, rfl⟩ := hp
    exact ⟨none, rfl, h, Iff.rfl, (fun b e => nomatch e), Below.refl _ _⟩
  | some b =>
    obtain ⟨D, h1, h2⟩ := h
    refine Calls.mono (AnyW.maps_Clone_owns Tryz.cloneM 9 heldR b n D w h1) (fun e w' hp => ?_)
    obtain ⟨rfl, h3, -, h5⟩ := hp
    exact ⟨some w.heap.size, rfl, ⟨D, h3, h2⟩, ⟨(fun e => nomatch e), (fun e => nomatch e)⟩, fun b e => (by injection e with e; omega), h5⟩
/-- Where the names of a crash stand. -/
structure Sv (w wr : World) (cb ab : Nat) (v : Value) (cs : List Int) (i : Nat) (mf : Option Nat) (nf : Nat) (N : ByteArray → Option Nat) (kv : Value) (ks : List ByteArray) : Prop where
  fx : Fx (fun k => k = ab) w wr
  nx : Nx wr cb ab v cs i
  mp : MapAt wr mf nf (nmV N)
  ky : wr.ownsRow 0 9 1 kv ks.length (ks.map Value.string)
  nw : ∀ b, mf = some b → w.heap.size ≤ b
section
variable {w wr w' : World} {cb ab : Nat} {v : Value} {cs : List Int} {i : Nat} {mf : Option Nat} {nf : Nat} {N : ByteArray → Option Nat} {kv : Value} {ks : List ByteArray}
theorem Sv.later (h : Sv w wr cb ab v cs i mf nf N kv ks) (hb : Below wr.heap.size wr w') : Sv w w' cb ab v cs i mf nf N kv ks :=
  ⟨h.fx.trans (Fx.ofBelow (S := fun _ => False) hb (Nat.le_refl _)) (fun _ _ h => h.elim), h.nx.later hb, h.mp.far (fun b e => hb.block _ (by have := h.mp; rw [e] at this; exact this.lt)) (Nat.le_refl _), ownsRow_far h.ky (fun g hg => hb.block _ (ownsRow_lt h.ky hg)), h.nw⟩
theorem Sv.next (h : Sv w wr cb ab v cs i mf nf N kv ks) (hn : Nx w' cb ab v cs (i + 1)) (hF : Fx (fun k => k = ab) wr w') : Sv w w' cb ab v cs (i + 1) mf nf N kv ks :=
  ⟨h.fx.trans hF (fun _ _ h => h), hn, h.mp.far (fun b e => by
    have hm := h.mp
    rw [e] at hm
    exact hF.block _ hm.lt (fun e2 => by subst e2; exact hm.notBk h.nx.a)) (Nat.le_refl _), ownsRow_far h.ky (fun g hg => by
    obtain ⟨cur, hcur⟩ := ownsRow_blk h.ky hg
    exact hF.block _ (ownsRow_lt h.ky hg) (type_ne hcur h.nx.a (by decide))), h.nw⟩
theorem Sv.turn {b : Nat} {N' : ByteArray → Option Nat} {nf' : Nat} (h : Sv w wr cb ab v cs i (some b) nf N kv ks) (hM : MapAt w' (some b) nf' (nmV N')) (hF : Fx (fun k => k = b) wr w') (hn0 : ∃ j, Nx w cb ab v cs j) : Sv w w' cb ab v cs i (some b) nf' N' kv ks := by
  have hb := h.nw b rfl
  have hfx : Fx (fun k => k = ab) w w' := h.fx.trans hF (fun i hi e => by subst e; omega)
  obtain ⟨j, hj⟩ := hn0
  refine ⟨hfx, hj.turn hfx (h.nx.a.far (hF.block _ h.nx.a.lt (fun e => by rw [← e] at h; exact h.mp.notBk h.nx.a))), hM, ownsRow_far h.ky (fun g hg => ?_), h.nw⟩
  obtain ⟨cur, hcur⟩ := ownsRow_blk h.ky hg
  exact hF.block _ (ownsRow_lt h.ky hg) (fun e => by subst e; exact h.mp.notBk hcur)
end
theorem Dk.crash {w wr : World} {B : Nat → Prop} {d n ab : Nat} {S : St} (h : Dk w B d S n) (hF : Fx (fun k => k = ab) w wr) (hB : ¬ B ab) : Dk wr B d S n :=
  h.far (fun i hi hb => hF.block i hi (fun e => hB (e ▸ hb))) (fun _ _ h => h) (Nat.le_refl _)
set_option maxRecDepth 100000 in
/-- The first changes of a row. -/
theorem cut_row (g L c k : Nat) (h1 : k ≤ L) (h2 : L ≤ c) (W : World) : (Instr.sliceAt 100 (.slice (some ⟨g, 0, none⟩) L c) none (some (.int .i64 k)) none).run Tryz.prog W = .ok (.slice (some ⟨g, 0, none⟩) k c) W := by
  have hs : (sizeOf (Tryz.prog.elem 100)).run Tryz.prog W = .ok 3 W := by kernel_rfl
  rw [run_sliceAt_slice (P := Tryz.prog) W 100 _ _ _ _ Tryz.underlying100, run_slice_h (P := Tryz.prog) W 100 _ L c Tryz.underlying100 .i64 k (by omega) (by omega), hs]
  simp [sliced, Result.andThen, add_plain]
theorem key_cell {w : World} {base : Nat} {kv : Value} {ks : List ByteArray} (h : w.ownsRow base 9 1 kv ks.length (ks.map Value.string)) {j : Nat} (hj : j < ks.length) : ∃ g c, kv = .slice (some ⟨g, 0, none⟩) ks.length c ∧ w.cell? ⟨g, j, none⟩ = some (.string (ks[j]'hj)) := by
  obtain ⟨g, c, rfl⟩ : ∃ g c, kv = .slice (some ⟨g, 0, none⟩) ks.length c := by
    rcases h.2 with ⟨h1, h2⟩ | ⟨g, cap, cur, h1, -⟩
    · omega
    · exact ⟨g, cap, h1⟩
  refine ⟨g, c, rfl, ?_⟩
  have := World.ownsRow.cells h (g := g) rfl j (.string (ks[j]'hj)) (by rw [List.getElem?_map, List.getElem?_eq_getElem hj]; rfl)
  rw [add_plain, Nat.zero_add] at this
  exact this
theorem key_form {w : World} {base : Nat} {kv : Value} {ks : List ByteArray} (h : w.ownsRow base 9 1 kv ks.length (ks.map Value.string)) : ∃ a c, kv = .slice a ks.length c := by
  rcases h.2 with ⟨h1, h2⟩ | ⟨g, cap, cur, h1, -⟩
  · exact ⟨none, 0, by rw [h1, h2]⟩
  · exact ⟨_, _, h1⟩
/-- What survivors answers. -/
def SvE (w : World) (cb ab : Nat) (v : Value) (cs : List Int) (i n : Nat) (S : St) (e : Ending) (w' : World) : Prop :=
  ∃ mf ks nf kv, e = .returned (.map mf) ∧ KeysOk (rwV S.C) ks ∧ Sv w w' cb ab v cs (i + ks.length) mf nf (svF S.ps.C cs S.L i ks) kv ks ∧ nf ≤ n + ks.length * S.m ∧ ks.length ≤ n
set_option maxRecDepth 100000 in
set_option maxHeartbeats 4000000 in
theorem survivors_any {w : World} {B : Nat → Prop} {d n : Nat} {S : St} (h : Dk w B d S n) {cb ab : Nat} {v : Value} {cs : List Int} {i : Nat} (hn : Nx w cb ab v cs i) (hB : ¬ B ab) (hnf : n + n * S.m ≤ 900000) :
    Calls Tryz.prog 24 #[.pointer (some ⟨d, 0, none⟩), nextV cb ab] w fun e w' => SvE w cb ab v cs i n S e w' := by
  have KD := Kept.mk h
  have KN := Kept.mk hn
  have g3 := h.lasting
  have KCl := Kept.mk (mapClone_any h.bd.mL)
  clear h hn
  unfold nextV
  go_enter Tryz.func24, Tryz.ntmps24
  go_wp2_with fail
  refine Calls.mono KCl.out (fun e w1 hp => ?_)
  obtain ⟨mf, rfl, hM1, hmf, hnw, hb1⟩ := hp
  have KD1 := Kept.mk (KD.out.later hb1)
  have KM1 := Kept.mk hM1
  have Kmf := Kept.mk hmf
  have Knw := Kept.mk hnw
  have KB1 := Kept.mk hb1
  have g4 := KD1.out.pending
  have KK := Kept.mk (keysP_any KD1.out.bd.mC (by have := Nat.zero_le (n * S.m); omega))
  clear hM1 hmf hnw hb1 KCl g3
  go_wp2_with fail
  refine Calls.mono KK.out (fun e w2 hp => ?_)
  obtain ⟨kv, ks, rfl, hrow, hks, hkl, hb2⟩ := hp
  have KSv : Kept (Sv w w2 cb ab v cs i mf n (svF S.ps.C cs S.L i (ks.take 0)) kv ks) := ⟨{
    fx := Fx.ofBelow (KB1.out.trans (hb2.mono KB1.out.size)) (Nat.le_refl _)
    nx := (KN.out.later KB1.out).later hb2
    mp := KM1.out.far (fun b e => hb2.block _ (by have := KM1.out; rw [e] at this; exact this.lt)) (Nat.le_refl _)
    ky := ownsRow_base_a hrow (Nat.zero_le _)
    nw := Knw.out }⟩
  have KKs := Kept.mk hks
  obtain ⟨ka, kc, rfl⟩ := key_form hrow
  have Kkl := Kept.mk hkl
  clear hrow hks hb2 KK g4
  have hki0 : (ks.length : Int) ≤ 900000 := by have := Nat.zero_le (n * S.m); omega
  go_wp2
  go_loopw [7, 8, 10, 22] (fun _ _ _ kx wr => ∃ k nf : Nat, k ≤ ks.length ∧ kx = .int .i64 k ∧ Sv w wr cb ab v cs (i + k) mf nf (svF S.ps.C cs S.L i (ks.take k)) (.slice ka ks.length kc) ks ∧ nf ≤ n + k * S.m) (fun _ _ _ kx _ => ks.length - (intOf kx).toNat)
  case atStart => exact ⟨0, n, Nat.zero_le _, rfl, KSv.out, by rw [Nat.zero_mul]; omega⟩
  case round =>
    obtain ⟨k, nf, hk, rfl, hsv, hnk⟩ := hrel
    by_cases hlt : k < ks.length
    · have hki : (k : Int) < (ks.length : Int) := by omega
      have hkm : n + k * S.m + S.m ≤ 900000 := by
        have h1 : (k + 1) * S.m ≤ n * S.m := Nat.mul_le_mul_right _ (by have := Kkl.out; omega)
        rw [Nat.add_mul, Nat.one_mul] at h1
        omega
      have hdr := KD.out.crash hsv.fx hB
      obtain ⟨g0, c0, hkv, hkc⟩ := key_cell hsv.ky hlt
      injection hkv with hk1 _ hk3
      subst hk1 hk3
      obtain ⟨q, hq⟩ : ∃ q, ks[k]'hlt = q := ⟨_, rfl⟩
      rw [hq] at hkc
      have hqm : rwV S.C q ≠ none := (KKs.out.mem q).1 (by rw [← hq]; exact List.getElem_mem hlt)
      obtain ⟨vv, l, hC⟩ : ∃ vv l, S.C q = some (vv, l) := by
        cases hx : S.C q with
        | none => exact absurd (by unfold rwV; rw [hx]; rfl) hqm
        | some x => exact ⟨x.1, x.2, rfl⟩
      have hqs := hdr.bd.kz q (.inr (.inr (by rw [hC]; exact fun h => nomatch h)))
      have hrowc := hdr.bd.rw q vv l hC
      have hne := hrowc.1.ne
      have hlm := hrowc.2
      obtain ⟨g, cp, rfl, hcap⟩ : ∃ g c, vv = .slice (some ⟨g, 0, none⟩) l.length c ∧ l.length ≤ c := by
        rcases hrowc.1.own.2 with ⟨h1, h2⟩ | ⟨g, cap, cur, h1, -, -, h3, -⟩
        · exact absurd (List.eq_nil_of_length_eq_zero h2) hne
        · exact ⟨g, cap, h1, h3⟩
      have g4 := hdr.pending
      have hlk0 := hdr.bd.mC.look Tryz.underlying54 (zero_row wr) (s := q) (by unfold maxLen; omega)
      have hlk : (Instr.lookup 54 (.map S.bp) (.string q) false).run Tryz.prog wr = .ok (.slice (some ⟨g, 0, none⟩) l.length cp) wr := by
        rw [hlk0]
        unfold rwV
        rw [hC]
        rfl
      obtain ⟨bf, rfl⟩ : ∃ bf, mf = some bf := by
        cases hx : mf with
        | some b => exact ⟨b, rfl⟩
        | none =>
          exfalso
          have hbl := Kmf.out.2 hx
          have hbn := KD.out.bd.nl.1.2 hbl
          have hbp := KD.out.bd.nl.2.1 hbn
          have hm0 := KD.out.bd.mC
          rw [hbp] at hm0
          exact hqm (hm0 q)
      have hx := chs_nn KN.out.all (i + k)
      have KNx := Kept.mk (next_any hsv.nx)
      obtain ⟨x, hxe⟩ : ∃ x, chs cs (i + k) = x := ⟨_, rfl⟩
      rw [hxe] at KNx hx
      obtain ⟨t, ht⟩ : ∃ t, x.toNat % (l.length + 1) = t := ⟨_, rfl⟩
      have htl : t ≤ l.length := by have := Nat.mod_lt x.toNat (show 0 < l.length + 1 by omega); omega
      obtain ⟨E, hE⟩ : ∃ E : Int, (l.length : Int) + 1 = E := ⟨_, rfl⟩
      have e2 : IntKind.i64.wrap ((l.length : Int) + 1) = E := by rw [← hE]; exact wr64 (by omega) (by omega)
      have e3 : x % E = (t : Int) := by
        rw [← ht, ← hE]
        push_cast
        rw [Int.toNat_of_nonneg hx.1]
      have e4 : x.tmod E = (t : Int) := by rw [Int.tmod_eq_emod_of_nonneg hx.1]; exact e3
      have e5 : ¬ E = 0 := by omega
      have hcut := cut_row g l.length cp t htl hcap
      have Kl : Kept (S.ps.C q = l) := ⟨by show ((S.C q).map Prod.snd).getD [] = l; rw [hC]; rfl⟩
      have KTk : Kept (svF S.ps.C cs S.L i (ks.take (k + 1)) = (l.take t).foldl apl (svF S.ps.C cs S.L i (ks.take k))) := ⟨by
        rw [List.take_add_one, List.getElem?_eq_getElem hlt, hq]
        show svF _ _ _ _ (ks.take k ++ [q]) = _
        rw [svF_snoc, List.length_take, Nat.min_eq_left hk, hxe, Kl.out, ht]⟩
      have KSr := Kept.mk hsv
      have KC := Kept.mk hC
      have Knk := Kept.mk hnk
      have Khkm := Kept.mk hkm
      have Klm := Kept.mk hlm
      have Ktl := Kept.mk htl
      have hti : (t : Int) ≤ 900000 := by have := Nat.zero_le (k * S.m); omega
      clear hsv hdr hq hqm hC hrowc hne hlk0 hxe hx ht hE hqs hnk hkm hlm htl hcap
      go_wp2_with fail
      refine Calls.mono KNx.out (fun e w4 hp => ?_)
      obtain ⟨rfl, hN4, hF4⟩ := hp
      have KS4 : Kept (Sv w w4 cb ab v cs (i + k + 1) (some bf) (nf + 0) ((l.take 0).foldl apl (svF S.ps.C cs S.L i (ks.take k))) (.slice (some ⟨g0, 0, none⟩) ks.length kc) ks) := ⟨KSr.out.next hN4 hF4⟩
      clear hN4 hF4 KNx hlk g4 hkc
      go_wp2
      go_loopw [10, 41] (fun _ jx wq => ∃ j : Nat, j ≤ t ∧ jx = .int .i64 j ∧ Sv w wq cb ab v cs (i + k + 1) (some bf) (nf + j) ((l.take j).foldl apl (svF S.ps.C cs S.L i (ks.take k))) (.slice (some ⟨g0, 0, none⟩) ks.length kc) ks) (fun _ jx _ => t - (intOf jx).toNat)
      case atStart => exact ⟨0, Nat.zero_le _, rfl, KS4.out⟩
      case round =>
        obtain ⟨j, hj, rfl, hsq⟩ := hrel
        by_cases hjt : j < t
        · have hji : (j : Int) < (t : Int) := by omega
          have hjl : j < l.length := by have := Ktl.out; omega
          have hdq := KD.out.crash hsq.fx hB
          have hown := (hdq.bd.rw q _ l KC.out).1
          obtain ⟨c, hc⟩ : ∃ c, l[j]'hjl = c := ⟨_, rfl⟩
          have hcm : c ∈ l := by rw [← hc]; exact List.getElem_mem hjl
          have Kok := Kept.mk (hown.ok c hcm)
          have c0 := row_cells hown.own hjl (j := 0) (by decide)
          have c1 := row_cells hown.own hjl (j := 1) (by decide)
          have c2 := row_cells hown.own hjl (j := 2) (by decide)
          rw [hc] at c0 c1 c2
          have d0 : wr.cell? ⟨g, j * 3, none⟩ = some (.string c.gone) := c0
          have d1 : wr.cell? ⟨g, j * 3 + 1, none⟩ = some (.string c.made) := c1
          obtain ⟨fo, hfo⟩ : ∃ fo, c.file.map (fun b => (⟨b, 0, none⟩ : Addr)) = fo := ⟨_, rfl⟩
          have d2 : wr.cell? ⟨g, j * 3 + 2, none⟩ = some (.pointer fo) := by rw [← hfo]; exact c2
          obtain ⟨cg, hcg⟩ : ∃ cg, c.gone = cg := ⟨_, rfl⟩
          obtain ⟨cm, hcm2⟩ : ∃ cm, c.made = cm := ⟨_, rfl⟩
          rw [hcg] at d0
          rw [hcm2] at d1
          have KV : Kept (c.v = .agg #[.string cg, .string cm, .pointer fo]) := ⟨by rw [← hcg, ← hcm2, ← hfo]; rfl⟩
          have KSq := Kept.mk hsq
          have KTj : Kept ((l.take (j + 1)).foldl apl (svF S.ps.C cs S.L i (ks.take k)) = apl ((l.take j).foldl apl (svF S.ps.C cs S.L i (ks.take k))) c) := ⟨by
            rw [List.take_add_one, List.getElem?_eq_getElem hjl, hc, List.foldl_append]
            rfl⟩
          clear c0 c1 c2 hfo hcg hcm2 hdq hown hcm hc hsq hcut
          go_upto_region 9 with fail
          obtain ⟨w5, hw5⟩ : ∃ w5, wr.alloc (.cells #[.string cg, .string cm, .pointer fo] 90) = w5 := ⟨_, rfl⟩
          have hb5 : Below wr.heap.size wr w5 := by rw [← hw5]; exact (Below.refl _ _).alloc (Nat.le_refl _) _
          have hB5 : Bk w5 wr.heap.size 90 [.string cg, .string cm, .pointer fo] := by rw [← hw5]; exact Bk.new wr _ _
          rw [hw5]
          have KS5 := Kept.mk (KSq.out.later hb5)
          have x0 := hB5.cell 0 _ rfl
          have x1 := hB5.cell 1 _ rfl
          have x2 := hB5.cell 2 _ rfl
          have KAp := Kept.mk (apply_any c bf (nf + j) _ w5 Kok.out KS5.out.mp (by have := Khkm.out; have := Klm.out; have := Ktl.out; have := Knk.out; omega))
          rw [KV.out] at KAp
          clear hw5 hb5 hB5 d0 d1 d2
          go_wp2_with fail
          refine Calls.mono KAp.out (fun e w6 hp => ?_)
          obtain ⟨rfl, hM6, hF6⟩ := hp
          have KS6 := Kept.mk (KS5.out.turn hM6 hF6 ⟨_, KN.out⟩)
          clear hM6 hF6 KAp x0 x1 x2
          go_wp2
          go_roundw
          case rel => exact ⟨j + 1, hjt, by go_num, by rw [KTj.out]; exact KS6.out⟩
          case measure => simp [intOf]; omega
        · have hji : ¬ (j : Int) < (t : Int) := by omega
          obtain rfl : j = t := by omega
          have KE := Kept.mk hsq
          clear hsq
          go_wp2
          go_roundw
          case rel => exact ⟨k + 1, nf + j, hlt, by go_num, by rw [KTk.out]; exact KE.out, by have := Ktl.out; have := Klm.out; have := Knk.out; rw [Nat.add_mul]; omega⟩
          case measure => simp [intOf]; omega
    · have hki : ¬ (k : Int) < (ks.length : Int) := by omega
      obtain rfl : k = ks.length := by omega
      rw [List.take_length] at hsv
      have KE := Kept.mk hsv
      have Kn := Kept.mk hnk
      clear hsv hnk
      go_wp2
      go_ret
      exact ⟨_, ks, nf, _, rfl, KKs.out, KE.out, Kn.out, Kkl.out⟩
end Go.Proofs.YtegdadkejheagaaGreatDoor
