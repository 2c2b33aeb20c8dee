/-
  The law FsLasts.
-/
import Derived.Test.YtegdadkejheagaaDoorFL4
namespace Go.Proofs.YtegdadkejheagaaDoor
open Go.RowKit Go.WideMaps Go.Maps

theorem apP_N (s : Ps) (p : ByteArray) (ys : List Int) : (apP s p ys).N = s.N := by
  unfold apP
  split
  · split
    · exact bgP_N s
    · exact bgP_N s
  · exact bgP_N s
theorem own_far2 {G : Nat → Prop} {lo base : Nat} {w w' : World} {v : Value} {xs : List Int} (h : Own .u8 5 w base v xs) (hb : Bg G lo w w') (hG : ∀ i, v.ownBlock = some i → G i) : Own .u8 5 w' base v xs := h.far (fun g hg => hb.g g (hG g hg))
theorem str_eq {p q : ByteArray} (h : p = q) : (p.toList == q.toList) = true := by subst h; simp
/-- What a call's block holds. -/
theorem call_box (w : World) (a b c d : Value) : ∃ wx, w.alloc (.cells #[a, b, c, d] 31) = wx ∧ Below w.heap.size w wx ∧ wx.cell? ⟨w.heap.size, 0, none⟩ = some a ∧ wx.cell? ⟨w.heap.size, 1, none⟩ = some b ∧ wx.cell? ⟨w.heap.size, 2, none⟩ = some c ∧ wx.cell? ⟨w.heap.size, 3, none⟩ = some d ∧ wx.rangeAt w.heap.size 0 [a, b, c, d] := by
  refine ⟨_, rfl, (Below.refl _ _).alloc (Nat.le_refl _) _, alloc_cell _ _ _ _ _ (by simp), alloc_cell _ _ _ _ _ (by simp), alloc_cell _ _ _ _ _ (by simp), alloc_cell _ _ _ _ _ (by simp), fun j u hu => ?_⟩
  rw [Nat.zero_add]
  exact alloc_cell _ _ _ _ _ (by simpa using hu)
theorem ds_all {lo : Nat} {w : World} {d n m : Nat} {s : Ps} (h : Ds lo w d s n m) {f : Nat} {x : List Int × Nat} (hF : s.F f = some x) : AllB x.1 := by
  obtain ⟨B, S, h1, rfl, h3, h4⟩ := h
  have hF : (S.F f).map (fun c : FileC => (c.xs, c.s)) = some x := hF
  cases hS : S.F f with
  | none => rw [hS] at hF; cases hF
  | some c =>
    rw [hS] at hF
    injection hF with hF
    subst hF
    exact (h1.bd.fl f c hS).all
set_option maxRecDepth 100000 in
set_option maxHeartbeats 8000000 in
theorem lasts_walk (v0 v2 v3 v4 : Value) (cs0 : List ClM) (p : ByteArray) (xs2 : List Int) (cs3 : List ClM) (xs4 : List Int) (w : World) (hg : Gl w) (h0 : RdC w v0 cs0) (h2 : Rd .u8 anyB w v2 xs2) (h3 : RdC w v3 cs3) (h4 : Rd .u8 anyB w v4 xs4) (a2 : AllB xs2) (a4 : AllB xs4) (l0 : cs0.length ≤ 140737488355328) (l3 : cs3.length ≤ 140737488355328) :
    Calls Tryd.prog 3 #[v0, .string p, v2, v3, v4] w fun e w' => e = .returned (.bool true) ∧ Below w.heap.size w w' := by
  have KG := Kept.mk hg
  have hgl := hg.lo
  have KAw := Kept.mk (awake_any w hg)
  have KS0 : Kept (∀ w', Below w.heap.size w w' → Calls Tryd.prog 7 #[v0] w' fun e w'' => ∃ q, e = .returned (.bool q) ∧ (q = true → (∀ r ∈ cs0, r.c.data.length ≤ 1000) ∧ cs0.length ≤ 60) ∧ Below w'.heap.size w' w'') := ⟨fun w' hb => small_any v0 cs0 w' (h0.later hb) l0⟩
  have KS3 : Kept (∀ w', Below w.heap.size w w' → Calls Tryd.prog 7 #[v3] w' fun e w'' => ∃ q, e = .returned (.bool q) ∧ (q = true → (∀ r ∈ cs3, r.c.data.length ≤ 1000) ∧ cs3.length ≤ 60) ∧ Below w'.heap.size w' w'') := ⟨fun w' hb => small_any v3 cs3 w' (h3.later hb) l3⟩
  have KR2 : Kept (Rd .u8 (fun b => b < w.heap.size) w v2 xs2) := ⟨h2.weak (fun b hb _ => hb)⟩
  have KR4 := Kept.mk h4
  have KA := Kept.mk (And.intro a2 a4)
  obtain ⟨x2, y2, rfl, -⟩ := h2.form
  obtain ⟨x4, y4, rfl, -⟩ := h4.form
  obtain ⟨x0, y0, rfl, -, hok0, hrd0⟩ := h0
  obtain ⟨x3, y3, rfl, -, hok3, hrd3⟩ := h3
  have KC0 := Kept.mk hok0
  have KD0 := Kept.mk hrd0
  have KC3 := Kept.mk hok3
  have KD3 := Kept.mk hrd3
  clear hg h2 h4 a2 a4 l0 l3 hok0 hrd0 hok3 hrd3
  go_enter Tryd.func3, Tryd.ntmps3
  go_wp2_with fail
  refine Calls.mono KAw.out (fun e w1 hp => ?_)
  obtain ⟨rfl, hb1⟩ := hp
  have KB1 := Kept.mk hb1
  clear hb1 KAw
  go_wp2_with fail
  refine Calls.mono (KS0.out _ KB1.out) (fun e w2 hp => ?_)
  obtain ⟨q0, rfl, hq0, hb2⟩ := hp
  have KB2 : Kept (Below w.heap.size w w2) := ⟨KB1.out.trans (hb2.mono KB1.out.size)⟩
  clear hb2 KS0
  cases q0 with
  | false =>
    clear hq0
    go_wp2
    go_ret
    exact ⟨rfl, KB2.out⟩
  | true =>
  have Kl0 := Kept.mk (hq0 rfl)
  clear hq0
  go_wp2_with fail
  refine Calls.mono (KS3.out _ KB2.out) (fun e w3 hp => ?_)
  obtain ⟨q3, rfl, hq3, hb3⟩ := hp
  have KB3 : Kept (Below w.heap.size w w3) := ⟨KB2.out.trans (hb3.mono KB2.out.size)⟩
  clear hb3 KS3
  cases q3 with
  | false =>
    clear hq3
    go_wp2
    go_ret
    exact ⟨rfl, KB3.out⟩
  | true =>
  have Kl3 := Kept.mk (hq3 rfl)
  clear hq3
  by_cases hbig : 1000 < xs2.length
  · have hbi : (1000 : Int) < (xs2.length : Int) := by omega
    go_wp2
    go_ret
    exact ⟨rfl, KB3.out⟩
  have hbi : ¬ (1000 : Int) < (xs2.length : Int) := by omega
  have Kn := Kept.mk (new_ds (lo := w.heap.size) 1073741824 w3 (by decide) KB3.out.size)
  go_wp2_with fail
  refine Calls.mono Kn.out (fun e w4 hp => ?_)
  obtain ⟨d, rfl, hd4, hb4⟩ := hp
  have KB4 : Kept (Below w.heap.size w w4) := ⟨KB3.out.trans hb4⟩
  have KRn4 := Kept.mk (rn_new hd4)
  clear hb4 hd4 Kn hbi
  have Kbig := Kept.mk hbig
  clear hbig
  go_wp2
  go_loopw [43] (fun kv wr => ∃ (k : Nat) (s : Ps), k ≤ cs0.length ∧ kv = .int .i64 k ∧ Rn (fun _ => False) w.heap.size wr d s k ∧ Below w.heap.size w wr) (fun kv _ => cs0.length - (intOf kv).toNat)
  case atStart => exact ⟨0, _, Nat.zero_le _, rfl, KRn4.out, KB4.out⟩
  case round =>
    obtain ⟨k, s, hk, rfl, hrn, hbel⟩ := hrel
    clear KRn4
    have KBr := Kept.mk hbel
    have KRn := Kept.mk hrn
    clear hrn
    by_cases hlt : k < cs0.length
    · skip
      have hki : (k : Int) < (cs0.length : Int) := by omega
      obtain ⟨b, off, rfl, hbl, hrg⟩ := KD0.out (by omega)
      obtain ⟨r, hre⟩ : ∃ r, cs0[k]'hlt = r := ⟨_, rfl⟩
      have hrow : wr.rangeAt b (off + k * 4) r.l := fun j u hu => by
        rw [hbel.cell (p := ⟨b, off + k * 4 + j, none⟩) hbl]
        rw [← hre] at hu
        exact hrg k hlt j u hu
      have hoke := KC0.out _ (List.getElem_mem hlt)
      have hle := Kl0.out.1 _ (List.getElem_mem hlt)
      rw [hre] at hoke hle
      obtain ⟨av, cv, hv, -, -, -⟩ := hoke.1.form
      have e2 : IntKind.i64.wrap ((k : Int) + 1) = (k : Int) + 1 := wr64 (by omega) (by have := Kl0.out.2; omega)
      unfold ClM.l at hrow
      obtain ⟨wx, hwx, hbx, c0, c1, c2, c3, hrx⟩ := call_box wr (.int .i64 r.c.kind) (.string r.c.path) (.string r.c.to) r.v
      have KBx : Kept (Below w.heap.size w wx) := ⟨hbel.trans (hbx.mono hbel.size)⟩
      have KRnx := Kept.mk (KRn.out.later hbx)
      have K := do_any r KRnx.out (ClM.later hoke KBx.out) hle (KG.out.later KBx.out) KBx.out.size hgl (by have := Kl0.out.2; omega)
      have Kkd := Kept.mk hoke.2
      rw [hv] at hrow hwx c3 hrx K
      obtain ⟨g, hgw⟩ : ∃ g, wr.heap.size = g := ⟨_, rfl⟩
      rw [hgw] at c0 c1 c2 c3 hrx
      have KRx := Kept.mk hrx
      have hR := Kept.mk hrow
      obtain ⟨kd, hkd⟩ : ∃ kd, r.c.kind = kd := ⟨_, rfl⟩
      obtain ⟨pt, hpt⟩ : ∃ pt, r.c.path = pt := ⟨_, rfl⟩
      obtain ⟨pto, hpto⟩ : ∃ pto, r.c.to = pto := ⟨_, rfl⟩
      rw [hkd] at c0 K hwx hR KRx Kkd
      rw [hpt] at c1 K hwx hR KRx Kkd
      rw [hpto] at c2 K hwx hR KRx
      have K := Kept.mk K
      have Krc := Kept.mk (And.intro hkd hpt)
      have hsz := Kept.mk (show wr.heap.size < wx.heap.size by rw [← hwx]; simp)
      generalize r.v = rv at *
      generalize r.c.data.length = ln at *
      clear hbel hrg hoke hre hv hle hbx hrx hrow hkd hpt hpto
      by_cases k1 : kd < 1
      · have k1n : ¬ (1 : Int) ≤ kd := by omega
        have KRs := Kept.mk (KRnx.out.weak (Nat.le_succ k))
        clear K KRnx
        go_wp2_with (first | (refine wpList_load_mid rfl 31 _ rfl b (off + k * 4) rfl _ _ hR.out Tryd.underlying31 rfl infoCall ?_) | (refine wpList_load_mid rfl 31 _ rfl g 0 rfl _ _ KRx.out Tryd.underlying31 rfl infoCall ?_) | (refine BigFrame.wpList_want rfl (fun K hK => wp_store_row 31 _ _ rfl wr.heap.size _ rfl rfl 31 _ (heap_alloc_new wr _) infoCall rfl rfl (hK _ _ ?_)); rw [World.setRow_alloc_new, hwx]))
        go_roundw
        case rel => exact ⟨k + 1, s, by omega, by go_num, KRs.out, KBx.out⟩
        case measure => simp [intOf]; omega
      by_cases k6 : 6 < kd
      · have k6n : ¬ kd ≤ 6 := by omega
        have k1n : (1 : Int) ≤ kd := by omega
        have KRs := Kept.mk (KRnx.out.weak (Nat.le_succ k))
        clear K KRnx
        go_wp2_with (first | (refine wpList_load_mid rfl 31 _ rfl b (off + k * 4) rfl _ _ hR.out Tryd.underlying31 rfl infoCall ?_) | (refine wpList_load_mid rfl 31 _ rfl g 0 rfl _ _ KRx.out Tryd.underlying31 rfl infoCall ?_) | (refine BigFrame.wpList_want rfl (fun K hK => wp_store_row 31 _ _ rfl wr.heap.size _ rfl rfl 31 _ (heap_alloc_new wr _) infoCall rfl rfl (hK _ _ ?_)); rw [World.setRow_alloc_new, hwx]))
        go_roundw
        case rel => exact ⟨k + 1, s, by omega, by go_num, KRs.out, KBx.out⟩
        case measure => simp [intOf]; omega
      have k1n : (1 : Int) ≤ kd := by omega
      have k6n : kd ≤ 6 := by omega
      go_wp2_with (first | (refine wpList_load_mid rfl 31 _ rfl b (off + k * 4) rfl _ _ hR.out Tryd.underlying31 rfl infoCall ?_) | (refine wpList_load_mid rfl 31 _ rfl g 0 rfl _ _ KRx.out Tryd.underlying31 rfl infoCall ?_) | (refine BigFrame.wpList_want rfl (fun K hK => wp_store_row 31 _ _ rfl wr.heap.size _ rfl rfl 31 _ (heap_alloc_new wr _) infoCall rfl rfl (hK _ _ ?_)); rw [World.setRow_alloc_new, hwx]))
      refine Calls.mono K.out (fun e w5 hp => ?_)
      obtain ⟨q, s5, rfl, hrn5, -, hb5⟩ := hp
      have KRs := Kept.mk hrn5
      have KB5 : Kept (Below w.heap.size w w5) := ⟨KBx.out.trans hb5.bel⟩
      clear hrn5 hb5 K
      go_wp2
      go_roundw
      case rel => exact ⟨k + 1, s5, by omega, by go_num, KRs.out, KB5.out⟩
      case measure => simp [intOf]; omega
    have hki : ¬ (k : Int) < (cs0.length : Int) := by omega
    have hk60 := Kl0.out.2
    have KRn := Kept.mk (KRn.out.weak (show k ≤ 60 by omega))
    obtain ⟨a5, b5, hds5, hab5⟩ := KRn.out.ds
    obtain ⟨-, hn5, hm5⟩ := fits (show a5 + b5 ≤ 123 by omega)
    have hbd5 := KRn.out.lim.bounds (by omega)
    have hlen : xs2.length ≤ 1000 := by have := Kbig.out; omega
    have KAp := Kept.mk (append_dg p _ xs2 hds5 (Below.refl _ _) (KG.out.later KBr.out) KBr.out.size KRn.out.calm.count hbd5.1 hgl ((KR2.out.later KBr.out (Nat.le_refl _)).weak (fun b _ hb => .inr hb)) KA.out.1 (by omega) hbd5.2.1 hbd5.2.2)
    have KDn : Kept (∀ w', Dg (fun _ => False) w.heap.size w' d (apP s p xs2) (a5 * (b5 + 2)) a5 → Rn (fun _ => False) w.heap.size w' d (apP s p xs2) 61) := ⟨fun w' hd' => rn_of KRn.out ⟨2, p, ByteArray.empty, xs2⟩ (mk_ap (c := ⟨2, p, ByteArray.empty, xs2⟩) rfl) hd' (by omega)⟩
    have KapN := Kept.mk (apP_N s p xs2)
    have KapE : Kept (apE s p xs2.length = 0 → opEP s [p] p = 0) := ⟨apE_ok⟩
    obtain ⟨E, hE⟩ : ∃ E, apE s p xs2.length = E := ⟨_, rfl⟩
    rw [hE] at KAp KapE
    clear hE hbel hk60 hn5 hm5 hbd5 hds5 hab5 hlen
    go_wp2_with fail
    refine Calls.mono KAp.out (fun e w5 hp => ?_)
    obtain ⟨rfl, hd5, hb5, -⟩ := hp
    have KB5 : Kept (Below w.heap.size w w5) := ⟨KBr.out.trans hb5.bel⟩
    have KR5 := Kept.mk (KDn.out w5 hd5)
    clear hd5 hb5 KAp KDn
    by_cases hE0 : E = 0
    · subst hE0
      have hop := KapE.out rfl
      obtain ⟨hone, f, hN⟩ := opEP_ok hop
      have hpp := oneF_one hone
      have hN1 : (apP s p xs2).N p = some f := by rw [KapN.out]; exact hN
      obtain ⟨s1, hs1⟩ : ∃ s1, apP s p xs2 = s1 := ⟨_, rfl⟩
      rw [hs1] at KR5 hN1
      clear KapE KapN hop hone hN hs1 KRn KBr hk hki hlt
      obtain ⟨x, hF, hfile⟩ := fileP_of KR5.out.inv hN1
      obtain ⟨hrE, hrL⟩ := KR5.out.calm.rdE hpp hfile
      obtain ⟨a6, b6, hds6, hab6⟩ := KR5.out.ds
      have KRd := Kept.mk (read_ds p hds6.ds (KG.out.later KB5.out))
      rw [hrE, hrL] at KRd
      have Kpp := Kept.mk hpp
      have hfile : fileP s1 p = some (f, x.1, x.2) := hfile
      have hlx := KR5.out.lim.len f x hF
      have hax := ds_all hds6.ds hF
      obtain ⟨zs, hzs⟩ : ∃ zs, x.1 = zs := ⟨_, rfl⟩
      rw [hzs] at KRd hfile hlx hax
      have KAz := Kept.mk hax
      have KFi := Kept.mk hfile
      have KlS := Kept.mk hlx
      clear hF hfile hrE hrL hds6 hab6 hpp hlx hax
      go_wp2_with fail
      refine Calls.mono KRd.out (fun e w6 hp => ?_)
      obtain ⟨v6, rfl, ho6, hb6⟩ := hp
      have KB6 : Kept (Below w.heap.size w w6) := ⟨KB5.out.trans (hb6.mono KB5.out.size)⟩
      have KR6 := Kept.mk (KR5.out.out (G := fun i => v6.ownBlock = some i) hb6 (fun i hi => ho6.lt i hi))
      have KO6 := Kept.mk ho6
      obtain ⟨xv, yv, hv6⟩ := own_form ho6
      clear ho6 hb6 KRd KR5 hzs
      have h6E : opEP s1 [p] p = 0 := KR6.out.calm.opE Kpp.out hN1
      obtain ⟨a6, b6, hds6, hab6⟩ := KR6.out.ds
      have hbd6 := KR6.out.lim.bounds (by omega)
      have KSy := Kept.mk (sync_dg p hds6 (KG.out.later KB6.out) KB6.out.size KR6.out.calm.count hbd6.1 hgl)
      rw [h6E] at KSy
      have KDn : Kept (∀ w', Dg (fun i => v6.ownBlock = some i) w.heap.size w' d (syP s1 p) (a6 * (b6 + 2)) a6 → Rn (fun i => v6.ownBlock = some i) w.heap.size w' d (syP s1 p) 62) := ⟨fun w' hd' => rn_of KR6.out ⟨3, p, ByteArray.empty, []⟩ (mk_sy (c := ⟨3, p, ByteArray.empty, []⟩) rfl) hd' (by omega)⟩
      have KLa : Kept (bgEP (syP s1 p) false [] = 0 → Last (sdP (syP s1 p) (folF p)) p f zs) := ⟨fun h => last_of KR6.out.inv (path_ne Kpp.out) KFi.out h6E h⟩
      clear h6E hds6 hab6 hbd6
      subst hv6
      go_wp2_with fail
      refine Calls.mono KSy.out (fun e w7 hp => ?_)
      obtain ⟨rfl, hd7, hb7⟩ := hp
      have KB7 : Kept (Below w.heap.size w w7) := ⟨KB6.out.trans hb7.bel⟩
      have KR7 := Kept.mk (KDn.out w7 hd7)
      have KO7 := Kept.mk (own_far2 KO6.out hb7 (fun _ h => h))
      clear hd7 hb7 KSy KDn KR6 KO6
      have KFo := Kept.mk (folder_any p w7 (by have := path_size Kpp.out; omega))
      go_wp2_with fail
      refine Calls.mono KFo.out (fun e w8 hp => ?_)
      obtain ⟨rfl, hb8⟩ := hp
      have KB8 : Kept (Below w.heap.size w w8) := ⟨KB7.out.trans (hb8.mono KB7.out.size)⟩
      have KR8 := Kept.mk (KR7.out.later hb8)
      have KO8 := Kept.mk (KO7.out.later hb8 (Nat.le_refl _))
      clear hb8 KFo KR7 KO7
      have h8E : bgEP (syP s1 p) false [] = 0 := KR8.out.calm.bgE rfl false
      have KLa := Kept.mk (KLa.out h8E)
      obtain ⟨a8, b8, hds8, hab8⟩ := KR8.out.ds
      obtain ⟨-, hn8, hm8⟩ := fits (show a8 + b8 ≤ 123 by omega)
      have hbd8 := KR8.out.lim.bounds (by omega)
      have KSd := Kept.mk (syncDir_dg (folF p) hds8 (KG.out.later KB8.out) KB8.out.size KR8.out.calm.count hbd8.1 hgl hn8 hm8 (Nat.le_trans (folF_le (path_size Kpp.out)) (by decide)))
      rw [h8E] at KSd
      have KDn : Kept (∀ w', Dg (fun i => (Value.slice xv zs.length yv).ownBlock = some i) w.heap.size w' d (sdP (syP s1 p) (folF p)) (a8 * (b8 + 2) + a8) a8 → Rn (fun i => (Value.slice xv zs.length yv).ownBlock = some i) w.heap.size w' d (sdP (syP s1 p) (folF p)) 63) := ⟨fun w' hd' => rn_of (a := a8) (b := b8 + 1) KR8.out ⟨6, folF p, ByteArray.empty, []⟩ (mk_sd (c := ⟨6, folF p, ByteArray.empty, []⟩) (show (6 : Int) ≠ 1 by decide) (show (6 : Int) ≠ 2 by decide) (show (6 : Int) ≠ 3 by decide) (show (6 : Int) ≠ 4 by decide) (show (6 : Int) ≠ 5 by decide)) (by rw [more_b]; exact hd') (by omega)⟩
      clear h8E hds8 hab8 hn8 hm8 hbd8
      go_wp2_with fail
      refine Calls.mono KSd.out (fun e w9 hp => ?_)
      obtain ⟨rfl, hd9, hb9⟩ := hp
      have KB9 : Kept (Below w.heap.size w w9) := ⟨KB8.out.trans hb9.bel⟩
      have KR9 := Kept.mk (KDn.out w9 hd9)
      have KO9 := Kept.mk (own_far2 KO8.out hb9 (fun _ h => h))
      clear hd9 hb9 KSd KDn KR8 KO8
      obtain ⟨s9, hs9⟩ : ∃ s9, sdP (syP s1 p) (folF p) = s9 := ⟨_, rfl⟩
      rw [hs9] at KR9 KLa
      clear hs9 KFi hN1
      have KFol : Kept (∀ (q : ByteArray) (W : World), q.size ≤ maxLen → Calls Tryd.prog 14 #[.string q] W fun e w' => e = .returned (.string (folF q)) ∧ Below W.heap.size W w') := ⟨fun q W hq => folder_any q W (by unfold maxLen at hq; omega)⟩
      have Kpsz : Kept (p.size ≤ maxLen) := ⟨Nat.le_trans (path_size Kpp.out) (by decide)⟩
      go_wp2
      go_loopw [87] (fun kv wr => ∃ (k : Nat) (s : Ps), k ≤ cs3.length ∧ kv = .int .i64 k ∧ Rn (fun i => (Value.slice xv zs.length yv).ownBlock = some i) w.heap.size wr d s (63 + k) ∧ Last s p f zs ∧ Own .u8 5 wr w5.heap.size (.slice xv zs.length yv) zs ∧ Below w.heap.size w wr) (fun kv _ => cs3.length - (intOf kv).toNat)
      case atStart => exact ⟨0, s9, Nat.zero_le _, rfl, KR9.out, KLa.out, KO9.out, KB9.out⟩
      case round =>
        obtain ⟨k, s, hk, rfl, hrn, hla, how, hbel⟩ := hrel
        clear KR9 KLa KO9
        have KBr := Kept.mk hbel
        have KRn := Kept.mk hrn
        have KLa := Kept.mk hla
        have KOw := Kept.mk how
        clear hrn hla how
        by_cases hlt : k < cs3.length
        · skip
          have hki : (k : Int) < (cs3.length : Int) := by omega
          obtain ⟨b, off, rfl, hbl, hrg⟩ := KD3.out (by omega)
          obtain ⟨r, hre⟩ : ∃ r, cs3[k]'hlt = r := ⟨_, rfl⟩
          have hrow : wr.rangeAt b (off + k * 4) r.l := fun j u hu => by
            rw [hbel.cell (p := ⟨b, off + k * 4 + j, none⟩) hbl]
            rw [← hre] at hu
            exact hrg k hlt j u hu
          have hoke := KC3.out _ (List.getElem_mem hlt)
          have hle := Kl3.out.1 _ (List.getElem_mem hlt)
          rw [hre] at hoke hle
          obtain ⟨av, cv, hv, -, -, -⟩ := hoke.1.form
          have e2 : IntKind.i64.wrap ((k : Int) + 1) = (k : Int) + 1 := wr64 (by omega) (by have := Kl3.out.2; omega)
          unfold ClM.l at hrow
          obtain ⟨wx, hwx, hbx, c0, c1, c2, c3, hrx⟩ := call_box wr (.int .i64 r.c.kind) (.string r.c.path) (.string r.c.to) r.v
          have KBx : Kept (Below w.heap.size w wx) := ⟨hbel.trans (hbx.mono hbel.size)⟩
          have KRnx := Kept.mk (KRn.out.later hbx)
          have K : ∀ W, Below wx.heap.size wx W → Calls Tryd.prog 9 #[.pointer (some ⟨d, 0, none⟩), .agg #[.int .i64 r.c.kind, .string r.c.path, .string r.c.to, r.v]] W fun e w' => ∃ q s', e = .returned (.int .i64 q) ∧ Rn (fun i => (Value.slice xv zs.length yv).ownBlock = some i) w.heap.size w' d s' (63 + k + 1) ∧ DoP s r.c s' ∧ Bg (fun i => (Value.slice xv zs.length yv).ownBlock = some i) w.heap.size W w' := fun W hW => do_any r (KRnx.out.later hW) (ClM.later hoke (KBx.out.trans (hW.mono KBx.out.size))) hle (KG.out.later (KBx.out.trans (hW.mono KBx.out.size))) (Nat.le_trans KBx.out.size hW.size) hgl (by have := Kl3.out.2; omega)
          have KOx := Kept.mk (KOw.out.later hbx (Nat.le_refl _))
          have Kkd := Kept.mk hoke.2
          rw [hv] at hrow hwx c3 hrx K
          obtain ⟨g, hgw⟩ : ∃ g, wr.heap.size = g := ⟨_, rfl⟩
          rw [hgw] at c0 c1 c2 c3 hrx
          have KRx : Kept (∀ W, Below wx.heap.size wx W → W.rangeAt g 0 [.int .i64 r.c.kind, .string r.c.path, .string r.c.to, .slice av r.c.data.length cv]) := ⟨fun W hW j u hu => by
            rw [hW.cell (p := ⟨g, 0 + j, none⟩) (by rw [← hgw, ← hwx]; simp)]
            exact hrx j u hu⟩
          have KBz : Kept (Below wx.heap.size wx wx) := ⟨Below.refl _ _⟩
          have KLd : Kept (∀ s', Lets r.c p → DoP s r.c s' → Last s' p f zs) := ⟨fun s' h1 h2 => KLa.out.do KRn.out.inv r.c h1 h2⟩
          have KRs := Kept.mk (KRnx.out.weak (Nat.le_succ (63 + k)))
          have hR := Kept.mk hrow
          obtain ⟨kd, hkd⟩ : ∃ kd, r.c.kind = kd := ⟨_, rfl⟩
          obtain ⟨pt, hpt⟩ : ∃ pt, r.c.path = pt := ⟨_, rfl⟩
          obtain ⟨pto, hpto⟩ : ∃ pto, r.c.to = pto := ⟨_, rfl⟩
          rw [hkd] at c0 K hwx hR KRx Kkd
          rw [hpt] at c1 K hwx hR KRx Kkd
          rw [hpto] at c2 K hwx hR KRx
          have K := Kept.mk K
          have Krc := Kept.mk (And.intro hkd hpt)
          have hsz := Kept.mk (show wr.heap.size < wx.heap.size by rw [← hwx]; simp)
          generalize r.v = rv at *
          generalize r.c.data.length = ln at *
          clear hbel hrg hoke hre hv hle hbx hrx hrow hkd hpt hpto
          go_upto_region 22 with (first | (refine wpList_load_mid rfl 31 _ rfl b (off + k * 4) rfl _ _ hR.out Tryd.underlying31 rfl infoCall ?_) | (refine BigFrame.wpList_want rfl (fun K hK => wp_store_row 31 _ _ rfl wr.heap.size _ rfl rfl 31 _ (heap_alloc_new wr _) infoCall rfl rfl (hK _ _ ?_)); rw [World.setRow_alloc_new, hwx]))
          by_cases k2 : kd = 2
          · subst k2
            by_cases hpe : pt = p
            · have hps := str_eq hpe
              obtain rfl : p = pt := hpe.symm
              clear hpe
              go_wp2_with fail
              refine Calls.mono (KFol.out p _ Kkd.out.2.1) (fun e wy hp => ?_)
              obtain ⟨rfl, hby⟩ := hp
              have KBy := Kept.mk hby
              clear hby
              go_wp2_with fail
              refine Calls.mono (KFol.out p wy Kpsz.out) (fun e wz hp => ?_)
              obtain ⟨rfl, hbz⟩ := hp
              have KBz : Kept (Below wx.heap.size wx wz) := ⟨KBy.out.trans (hbz.mono KBy.out.size)⟩
              have KBzw : Kept (Below w.heap.size w wz) := ⟨KBx.out.trans (KBz.out.mono KBx.out.size)⟩
              have KOz := Kept.mk (KOx.out.later KBz.out (Nat.le_refl _))
              have KRz := Kept.mk (KRs.out.later KBz.out)
              clear hbz KBy
              have hfs := str_eq (rfl : folF p = folF p)
              go_wp2
              go_roundw
              case rel => exact ⟨k + 1, s, by omega, by go_num, KRz.out, KLa.out, KOz.out, KBzw.out⟩
              case measure => simp [intOf]; omega
            have hps := str_ne_list hpe
            go_upto_region 23 with fail
            go_wp2_with (refine wpList_load_mid rfl 31 _ rfl g 0 rfl _ _ (KRx.out _ KBz.out) Tryd.underlying31 rfl infoCall ?_)
            refine Calls.mono (K.out _ KBz.out) (fun e w11 hp => ?_)
            obtain ⟨q, s5, rfl, hrn5, hdo, hb5⟩ := hp
            have KR5 := Kept.mk hrn5
            have KL5 := Kept.mk (KLd.out s5 (.inl ⟨Krc.out.1, by rw [Krc.out.2]; exact hpe⟩) hdo)
            have KO5 := Kept.mk (own_far2 KOx.out hb5 (fun _ h => h))
            have KB5 : Kept (Below w.heap.size w w11) := ⟨KBx.out.trans hb5.bel⟩
            clear hrn5 hdo hb5 K
            go_wp2
            go_roundw
            case rel => exact ⟨k + 1, s5, by omega, by go_num, KR5.out, KL5.out, KO5.out, KB5.out⟩
            case measure => simp [intOf]; omega
          by_cases k3 : kd = 3
          · subst k3
            go_upto_region 23 with fail
            go_wp2_with (refine wpList_load_mid rfl 31 _ rfl g 0 rfl _ _ (KRx.out _ KBz.out) Tryd.underlying31 rfl infoCall ?_)
            refine Calls.mono (K.out _ KBz.out) (fun e w11 hp => ?_)
            obtain ⟨q, s5, rfl, hrn5, hdo, hb5⟩ := hp
            have KR5 := Kept.mk hrn5
            have KL5 := Kept.mk (KLd.out s5 (.inr (.inl Krc.out.1)) hdo)
            have KO5 := Kept.mk (own_far2 KOx.out hb5 (fun _ h => h))
            have KB5 : Kept (Below w.heap.size w w11) := ⟨KBx.out.trans hb5.bel⟩
            clear hrn5 hdo hb5 K
            go_wp2
            go_roundw
            case rel => exact ⟨k + 1, s5, by omega, by go_num, KR5.out, KL5.out, KO5.out, KB5.out⟩
            case measure => simp [intOf]; omega
          by_cases k6 : kd = 6
          · subst k6
            go_upto_region 23 with fail
            go_wp2_with (refine wpList_load_mid rfl 31 _ rfl g 0 rfl _ _ (KRx.out _ KBz.out) Tryd.underlying31 rfl infoCall ?_)
            refine Calls.mono (K.out _ KBz.out) (fun e w11 hp => ?_)
            obtain ⟨q, s5, rfl, hrn5, hdo, hb5⟩ := hp
            have KR5 := Kept.mk hrn5
            have KL5 := Kept.mk (KLd.out s5 (.inr (.inr (.inl Krc.out.1))) hdo)
            have KO5 := Kept.mk (own_far2 KOx.out hb5 (fun _ h => h))
            have KB5 : Kept (Below w.heap.size w w11) := ⟨KBx.out.trans hb5.bel⟩
            clear hrn5 hdo hb5 K
            go_wp2
            go_roundw
            case rel => exact ⟨k + 1, s5, by omega, by go_num, KR5.out, KL5.out, KO5.out, KB5.out⟩
            case measure => simp [intOf]; omega
          have b2 : (kd == 2) = false := by simpa using k2
          have b3 : (kd == 3) = false := by simpa using k3
          have b6 : (kd == 6) = false := by simpa using k6
          by_cases k1 : 1 ≤ kd
          · by_cases k5 : kd ≤ 5
            · skip
              go_wp2_with fail
              refine Calls.mono (KFol.out pt _ Kkd.out.2.1) (fun e wy hp => ?_)
              obtain ⟨rfl, hby⟩ := hp
              have KBy := Kept.mk hby
              clear hby
              go_wp2_with fail
              refine Calls.mono (KFol.out p wy Kpsz.out) (fun e wz hp => ?_)
              obtain ⟨rfl, hbz⟩ := hp
              have KBz : Kept (Below wx.heap.size wx wz) := ⟨KBy.out.trans (hbz.mono KBy.out.size)⟩
              have KBzw : Kept (Below w.heap.size w wz) := ⟨KBx.out.trans (KBz.out.mono KBx.out.size)⟩
              have KOz := Kept.mk (KOx.out.later KBz.out (Nat.le_refl _))
              have KRz := Kept.mk (KRs.out.later KBz.out)
              clear hbz KBy
              by_cases hfe : folF pt = folF p
              · have hfs := str_eq hfe
                go_wp2
                go_roundw
                case rel => exact ⟨k + 1, s, by omega, by go_num, KRz.out, KLa.out, KOz.out, KBzw.out⟩
                case measure => simp [intOf]; omega
              have hfs := str_ne_list hfe
              go_upto_region 23 with fail
              go_wp2_with (refine wpList_load_mid rfl 31 _ rfl g 0 rfl _ _ (KRx.out _ KBz.out) Tryd.underlying31 rfl infoCall ?_)
              refine Calls.mono (K.out _ KBz.out) (fun e w11 hp => ?_)
              obtain ⟨q, s5, rfl, hrn5, hdo, hb5⟩ := hp
              have KR5 := Kept.mk hrn5
              have KL5 := Kept.mk (KLd.out s5 (.inr (.inr (.inr ⟨by rw [Krc.out.1]; omega, by rw [Krc.out.1]; omega, by rw [Krc.out.2]; exact hfe⟩))) hdo)
              have KO5 := Kept.mk (own_far2 KOz.out hb5 (fun _ h => h))
              have KB5 : Kept (Below w.heap.size w w11) := ⟨KBzw.out.trans hb5.bel⟩
              clear hrn5 hdo hb5 K
              go_wp2
              go_roundw
              case rel => exact ⟨k + 1, s5, by omega, by go_num, KR5.out, KL5.out, KO5.out, KB5.out⟩
              case measure => simp [intOf]; omega
            · skip
              go_wp2
              go_roundw
              case rel => exact ⟨k + 1, s, by omega, by go_num, KRs.out, KLa.out, KOx.out, KBx.out⟩
              case measure => simp [intOf]; omega
          · skip
            go_wp2
            go_roundw
            case rel => exact ⟨k + 1, s, by omega, by go_num, KRs.out, KLa.out, KOx.out, KBx.out⟩
            case measure => simp [intOf]; omega
        have hki : ¬ (k : Int) < (cs3.length : Int) := by omega
        have hk60 := Kl3.out.2
        have KRn := Kept.mk (KRn.out.weak (show 63 + k ≤ 123 by omega))
        obtain ⟨a9, b9, hds9, hab9⟩ := KRn.out.ds
        have hfit := (fits hab9).1
        have KCr := Kept.mk (crash_ds _ xs4 hds9.ds (KR4.out.later KBr.out (Nat.le_refl _)) KA.out.2 hfit)
        clear hds9 hab9 hfit hk60
        go_wp2_with fail
        refine Calls.mono KCr.out (fun e w10 hp => ?_)
        obtain ⟨d', s', ks, ps, rfl, hd', hcr, -, hb10⟩ := hp
        have KB10 : Kept (Below w.heap.size w w10) := ⟨KBr.out.trans (hb10.mono KBr.out.size)⟩
        have KO10 := Kept.mk (KOw.out.later hb10 (Nat.le_refl _))
        obtain ⟨hrE, hrL⟩ := last_crash KRn.out.inv KLa.out Kpp.out hcr
        have KRd := Kept.mk (read_ds p hd' (KG.out.later KB10.out))
        rw [hrE, hrL] at KRd
        clear hb10 hcr hd' hrE hrL KCr KOw
        go_wp2_with fail
        refine Calls.mono KRd.out (fun e w12 hp => ?_)
        obtain ⟨v12, rfl, ho12, hb12⟩ := hp
        have KB12 : Kept (Below w.heap.size w w12) := ⟨KB10.out.trans (hb12.mono KB10.out.size)⟩
        have KO12 := Kept.mk ho12
        have KOw := Kept.mk (KO10.out.later hb12 (Nat.le_refl _))
        obtain ⟨xg, yg, hv12⟩ := own_form ho12
        subst hv12
        have KSa := Kept.mk (same_self _ _ zs w12 KO12.out.rd KOw.out.rd KAz.out)
        clear ho12 hb12 KRd
        go_wp2_with fail
        refine Calls.mono KSa.out (fun e w13 hp => ?_)
        obtain ⟨rfl, rfl⟩ := hp
        go_wp2
        go_ret
        exact ⟨rfl, KB12.out⟩
    · go_wp2
      go_ret
      exact ⟨rfl, KB5.out⟩
end Go.Proofs.YtegdadkejheagaaDoor
