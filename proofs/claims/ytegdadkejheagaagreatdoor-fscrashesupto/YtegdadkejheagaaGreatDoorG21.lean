/-
  The law FsCrashes.
-/
import Derived.Test.YtegdadkejheagaaGreatDoorG20
import Derived.Test.YtegdadkejheagaaGreatDoorFM10
namespace Go.Proofs.YtegdadkejheagaaGreatDoor
open Go.RowKit Go.WideMaps Go.Maps

set_option maxRecDepth 100000 in
set_option maxHeartbeats 16000000 in
theorem crashes_walk (q o : Int) (v2 v3 v4 : Value) (cs2 : List ClM) (xs3 xs4 : List Int) (w : World) (hg : Gl w) (h2 : RdC w v2 cs2) (h3 : Rd .u8 anyB w v3 xs3) (h4 : Rd .u8 anyB w v4 xs4) (a3 : AllB xs3) (a4 : AllB xs4) (l2 : cs2.length ≤ 140737488355328) (hsz : ∀ r ∈ cs2, r.c.path.size < 4294967281 ∧ r.c.dst.size < 4294967281) :
    Calls Tryz.prog 3 #[.int .i64 q, .int .i64 o, v2, v3, v4] w fun e w' => e = .returned (.bool true) ∧ Below w.heap.size w w' := by
  have KG := Kept.mk hg
  have hgl := hg.lo
  have KAw := Kept.mk (awake_any w hg)
  have KS2 : Kept (∀ w', Below w.heap.size w w' → Calls Tryz.prog 5 #[v2] w' fun e w'' => ∃ q, e = .returned (.bool q) ∧ (q = true → (∀ r ∈ cs2, r.c.data.length ≤ 1000) ∧ cs2.length ≤ 60) ∧ Below w'.heap.size w' w'') := ⟨fun w' hb => small_any v2 cs2 w' (h2.later hb) l2⟩
  have KR3 := Kept.mk h3
  have KR4 := Kept.mk h4
  have KA := Kept.mk (And.intro a3 a4)
  have Ksz := Kept.mk hsz
  obtain ⟨x3, y3, rfl, -⟩ := h3.form
  obtain ⟨x4, y4, rfl, -⟩ := h4.form
  obtain ⟨x2, y2, rfl, -, hok2, hrd2⟩ := h2
  have KC2 := Kept.mk hok2
  have KD2 := Kept.mk hrd2
  clear hg h3 h4 a3 a4 l2 hok2 hrd2 hsz
  go_enter Tryz.func3, Tryz.ntmps3
  go_wp2_with fail
  refine Calls.mono KAw.out (fun e w1 hp => ?_)
  obtain ⟨rfl, hb1⟩ := hp
  have KB1 := Kept.mk hb1
  clear hb1 KAw
  go_wp2_with fail
  refine Calls.mono (KS2.out _ KB1.out) (fun e w2 hp => ?_)
  obtain ⟨q0, rfl, hq0, hb2⟩ := hp
  have KB2 : Kept (Below w.heap.size w w2) := ⟨KB1.out.trans (hb2.mono KB1.out.size)⟩
  clear hb2 KS2
  cases q0 with
  | false =>
    clear hq0
    go_wp2
    go_ret
    exact ⟨rfl, KB2.out⟩
  | true =>
  have Kl2 := Kept.mk (hq0 rfl)
  clear hq0
  by_cases hq : q < 0
  · go_wp2
    go_ret
    exact ⟨rfl, KB2.out⟩
  have hqn : 0 ≤ q := by omega
  have Kn := Kept.mk (new_ds (lo := w.heap.size) q w2 hqn KB2.out.size)
  clear hqn
  go_wp2_with fail
  refine Calls.mono Kn.out (fun e w3 hp => ?_)
  obtain ⟨d, rfl, hd3, hb3⟩ := hp
  have KB3 : Kept (Below w.heap.size w w3) := ⟨KB2.out.trans hb3⟩
  have Kp := Kept.mk (plan_ds (.slice none 0 0) [] o hd3 (Below.refl _ _) KB3.out.size (Rd.nil _ _ _) (by simp) (by simp))
  clear hd3 hb3 Kn hq
  go_wp2_with fail
  refine Calls.mono Kp.out (fun e w4 hp => ?_)
  obtain ⟨rfl, hd4, hb4⟩ := hp
  have KB4 : Kept (Below w.heap.size w w4) := ⟨KB3.out.trans hb4⟩
  obtain ⟨w5, hw5⟩ : ∃ w5, w4.alloc (.cells #[.slice none 0 0, .slice none 0 0, .slice none 0 0, .slice none 0 0, .int .i64 q, .slice none 0 0, .int .i64 o, .int .i64 0, .bool false] 36) = w5 := ⟨_, rfl⟩
  have hb5 : Below w4.heap.size w4 w5 := by rw [← hw5]; exact (Below.refl _ _).alloc (Nat.le_refl _) _
  have KX4 : Kept (Rx (fun _ => False) w.heap.size w4 d (plP (newS q).ps [] o) 0) := ⟨⟨0, 0, by simpa using Dg.of hd4, Nat.le_refl _⟩⟩
  obtain ⟨g13, hg13⟩ : ∃ g13, w4.heap.size = g13 := ⟨_, rfl⟩
  have K13 : Kept (Bk w5 g13 36 [.slice none 0 0, .slice none 0 0, .slice none 0 0, .slice none 0 0, .int .i64 q, .slice none 0 0, .int .i64 o, .int .i64 0, .bool false]) := ⟨by rw [← hw5, ← hg13]; exact Bk.new w4 _ _⟩
  have KX5 : Kept (Rx (fun i => False ∨ i = g13) w.heap.size w5 d (plP (newS q).ps [] o) 0) := ⟨(KX4.out.wider hb5).sub (fun i hi => by
    rcases hi with hi | hi
    · exact hi.elim
    · exact .inr ⟨by omega, by have := K13.out.lt; omega⟩)⟩
  have KB5 : Kept (Below w.heap.size w w5) := ⟨KB4.out.trans (hb5.mono KB4.out.size)⟩
  have Kg13 : Kept (w.heap.size ≤ g13 ∧ g13 < w5.heap.size) := ⟨by have := KB4.out.size; have := K13.out.lt; omega⟩
  have hz5 : Kept (∀ o', (w4.alloc o').heap[g13]? = some o') := ⟨fun o' => by rw [← hg13]; exact heap_alloc_new w4 o'⟩
  have hsr : Kept (∀ cs0 : Array Value, (w4.alloc (.cells cs0 36)).setRow g13 #[.slice none 0 0, .slice none 0 0, .slice none 0 0, .slice none 0 0, .int .i64 q, .slice none 0 0, .int .i64 o, .int .i64 0, .bool false] = w5) := ⟨fun cs0 => by rw [← hg13, World.setRow_alloc_new, hw5]⟩
  have hone : Kept ((#[.slice none 0 0, .slice none 0 0, .slice none 0 0, .slice none 0 0, .int .i64 q, .slice none 0 0, .int .i64 o, .int .i64 0, .bool false] : Array Value).all (·.oneCell') = true) := ⟨by rw [List.all_toArray]; rfl⟩
  have KI5 := Kept.mk (inv_plan (inv_new q) [] o)
  have KC5 := Kept.mk (cor_new q o)
  obtain ⟨S5, hS5⟩ : ∃ S5, plP (newS q).ps [] o = S5 := ⟨_, rfl⟩
  rw [hS5] at KX5 KI5 KC5
  clear hd4 hb4 Kp hb5 KX4 hS5
  go_wp2_with (refine BigFrame.wpList_want rfl (fun K hK => wp_store_row 36 _ _ rfl g13 #[.slice none 0 0, .slice none 0 0, .slice none 0 0, .slice none 0 0, .int .i64 q, .slice none 0 0, .int .i64 o, .int .i64 0, .bool false] rfl rfl 36 _ (hz5.out _) infoDisk rfl hone.out (hK _ _ ?_)); rw [hsr.out])
  clear hz5 hsr hone hw5
  go_loopw [43] (fun kv wr => ∃ (k : Nat) (s : Ps) (φ : Nat → Nat) (D : DD) (V : DVs) (G : Nat → Prop), k ≤ cs2.length ∧ kv = .int .i64 k ∧ ¬ G g13 ∧ Rx (fun i => G i ∨ i = g13) w.heap.size wr d s k ∧ Inv s ∧ Cor φ s D ∧ DL D k ∧ DM G wr D V ∧ Bk wr g13 36 [V.n, V.l, V.p, V.f, .int .i64 D.quota, .slice none 0 0, .int .i64 D.offAt, .int .i64 D.count, .bool D.off] ∧ Below w.heap.size w wr) (fun kv _ => cs2.length - (intOf kv).toNat)
  case atStart => exact ⟨0, S5, fun _ => 0, dd0 q o, ⟨.slice none 0 0, .slice none 0 0, .slice none 0 0, .slice none 0 0⟩, fun _ => False, Nat.zero_le _, rfl, fun h => h, KX5.out, KI5.out, KC5.out, dl_new q o, dm_new _ _ q o, K13.out, KB5.out⟩
  case round =>
    obtain ⟨k, s, φ, D, V, G, hk, rfl, hng, hrx, hinv, hcor, hdl, hdm, hb13, hbel⟩ := hrel
    clear KX5 KI5 KC5
    have KBr := Kept.mk hbel
    have KRx := Kept.mk hrx
    have KIn := Kept.mk hinv
    have KCo := Kept.mk hcor
    have KDl := Kept.mk hdl
    have KDm := Kept.mk hdm
    have KB13 := Kept.mk hb13
    have Kng := Kept.mk hng
    have Kg3 : Kept (g13 < wr.heap.size) := ⟨hb13.lt⟩
    clear hrx hinv hcor hdl hdm hb13 hng
    by_cases hlt : k < cs2.length
    · have hki : (k : Int) < (cs2.length : Int) := by omega
      obtain ⟨b, off, rfl, hbl, hrg⟩ := KD2.out (by omega)
      obtain ⟨r, hre⟩ : ∃ r, cs2[k]'hlt = r := ⟨_, rfl⟩
      have hrow : wr.rangeAt b (off + k * 4) r.l := fun j u hu => by
        rw [hbel.cell (p := ⟨b, off + k * 4 + j, none⟩) hbl]
        rw [← hre] at hu
        exact hrg k hlt j u hu
      have hoke := KC2.out _ (List.getElem_mem hlt)
      have hle := Kl2.out.1 _ (List.getElem_mem hlt)
      have hpz := Ksz.out _ (List.getElem_mem hlt)
      rw [hre] at hoke hle hpz
      obtain ⟨av, cv, hv, -, -, -⟩ := hoke.1.form
      have hk60 := Kl2.out.2
      have e2 : IntKind.i64.wrap ((k : Int) + 1) = (k : Int) + 1 := wr64 (by omega) (by omega)
      unfold ClM.l at hrow
      obtain ⟨wx, hwx, hbx, hsx, hcx⟩ := clm_box wr (.int .i64 r.c.kind) (.string r.c.path) (.string r.c.dst) r.v
      have c0 := hcx 0 _ rfl
      have KBx : Kept (Below w.heap.size w wx) := ⟨hbel.trans (hbx.mono hbel.size)⟩
      have KDmx := Kept.mk (KDm.out.later hbx)
      have KB13x := Kept.mk (KB13.out.below hbx)
      have KRxx := Kept.mk (KRx.out.later hbx)
      have Kg15 : Kept (wr.heap.size < wx.heap.size ∧ g13 < wr.heap.size) := ⟨⟨hsx, Kg3.out⟩⟩
      have Kk := Kept.mk (And.intro hk60 hlt)
      have KRr : Kept (∀ W, Below wx.heap.size wx W → W.rangeAt wr.heap.size 0 [.int .i64 r.c.kind, .string r.c.path, .string r.c.dst, r.v]) := ⟨fun W hW j u hu => by
        rw [hW.cell (p := ⟨wr.heap.size, 0 + j, none⟩) hsx, Nat.zero_add]
        exact hcx j u hu⟩
      have KDo : Kept (1 ≤ r.c.kind → r.c.kind ≤ 6 → Calls Tryz.prog 8 #[.agg #[V.n, V.l, V.p, V.f, .int .i64 D.quota, .slice none 0 0, .int .i64 D.offAt, .int .i64 D.count, .bool D.off], .agg #[.int .i64 r.c.kind, .string r.c.path, .string r.c.dst, r.v]] wx fun e w' => ∃ V' q', e = .returned (.tuple #[.agg #[V'.n, V'.l, V'.p, V'.f, .int .i64 (doF D r.c).quota, .slice none 0 0, .int .i64 (doF D r.c).offAt, .int .i64 (doF D r.c).count, .bool (doF D r.c).off], .int .i64 q']) ∧ DM (Gn G wx) w' (doF D r.c) V' ∧ Below wx.heap.size wx w') := ⟨fun h1 h6 => dDo_any (k := k) D V r.c r.v wx KDmx.out KDl.out (by omega) KCo.out.N.srt KCo.out.L.srt KCo.out.nrng ((ClM.later hoke KBx.out).1) hoke.2.1 hle hpz.1 hpz.2 h1 h6⟩
      have KPd : Kept (∀ (G' : Nat → Prop) W, Rx G' w.heap.size W d s k → Below w.heap.size w W → Calls Tryz.prog 9 #[.pointer (some ⟨d, 0, none⟩), .agg #[.int .i64 r.c.kind, .string r.c.path, .string r.c.dst, r.v]] W fun e w' => ∃ q s', e = .returned (.int .i64 q) ∧ Rx G' w.heap.size w' d s' (k + 1) ∧ DoP s r.c s' ∧ Bg G' w.heap.size W w') := ⟨fun G' W hX hW => do_any0 r hX (KCo.out.small KDl.out (by omega)) (ClM.later hoke hW) hle (KG.out.later hW) hW.size hgl (by omega)⟩
      have KNx : Kept (∀ s', 1 ≤ r.c.kind → r.c.kind ≤ 6 → DoP s r.c s' → Inv s' ∧ (∃ φ', Cor φ' s' (doF D r.c)) ∧ DL (doF D r.c) (k + 1)) := ⟨fun s' h1 h6 hd => ⟨KIn.out.do r.c hd, KCo.out.do KIn.out ⟨h1, h6⟩ hd, KDl.out.do KCo.out.N.srt KCo.out.L.srt hle⟩⟩
      rw [hv] at hrow hwx KDo KPd KRr
      obtain ⟨g15, hg15⟩ : ∃ g15, wr.heap.size = g15 := ⟨_, rfl⟩
      rw [hg15] at c0 KRr Kg15
      have hR := Kept.mk hrow
      obtain ⟨E, hE⟩ : ∃ E, doF D r.c = E := ⟨_, rfl⟩
      rw [hE] at KDo KNx
      obtain ⟨kd, hkd⟩ : ∃ kd, r.c.kind = kd := ⟨_, rfl⟩
      obtain ⟨pt, hpt⟩ : ∃ pt, r.c.path = pt := ⟨_, rfl⟩
      obtain ⟨pto, hpto⟩ : ∃ pto, r.c.dst = pto := ⟨_, rfl⟩
      rw [hkd] at c0 KDo KPd hwx hR KRr KNx
      rw [hpt] at KDo KPd hwx hR KRr
      rw [hpto] at KDo KPd hwx hR KRr
      generalize r.v = rv at *
      generalize r.c.data.length = ln at *
      clear hbel hrg hoke hre hv hle hpz hbx hsx hrow hkd hpt hpto hcx hE hk60
      by_cases k1 : kd < 1
      · have k1n : ¬ (1 : Int) ≤ kd := by omega
        have KRs := Kept.mk (KRxx.out.weak (Nat.le_succ k))
        have KDs := Kept.mk (KDl.out.weak (Nat.le_succ k))
        clear KDo KPd KNx
        go_wp2_with (first | (refine wpList_load_mid rfl 38 _ rfl b (off + k * 4) rfl _ _ hR.out Tryz.underlying38 rfl infoCall ?_) | (refine BigFrame.wpList_want rfl (fun K hK => wp_store_row 38 _ _ rfl wr.heap.size _ rfl rfl 38 _ (heap_alloc_new wr _) infoCall rfl rfl (hK _ _ ?_)); rw [World.setRow_alloc_new, hwx]))
        go_roundw
        case rel => exact ⟨k + 1, s, φ, D, V, G, by omega, by go_num, Kng.out, KRs.out, KIn.out, KCo.out, KDs.out, KDmx.out, KB13x.out, KBx.out⟩
        case measure => simp [intOf]; omega
      by_cases k6 : 6 < kd
      · have k6n : ¬ kd ≤ 6 := by omega
        have k1n : (1 : Int) ≤ kd := by omega
        have KRs := Kept.mk (KRxx.out.weak (Nat.le_succ k))
        have KDs := Kept.mk (KDl.out.weak (Nat.le_succ k))
        clear KDo KPd KNx
        go_wp2_with (first | (refine wpList_load_mid rfl 38 _ rfl b (off + k * 4) rfl _ _ hR.out Tryz.underlying38 rfl infoCall ?_) | (refine BigFrame.wpList_want rfl (fun K hK => wp_store_row 38 _ _ rfl wr.heap.size _ rfl rfl 38 _ (heap_alloc_new wr _) infoCall rfl rfl (hK _ _ ?_)); rw [World.setRow_alloc_new, hwx]))
        go_roundw
        case rel => exact ⟨k + 1, s, φ, D, V, G, by omega, by go_num, Kng.out, KRs.out, KIn.out, KCo.out, KDs.out, KDmx.out, KB13x.out, KBx.out⟩
        case measure => simp [intOf]; omega
      have k1n : (1 : Int) ≤ kd := by omega
      have k6n : kd ≤ 6 := by omega
      have KDo := Kept.mk (KDo.out k1n k6n)
      have KNx : Kept (∀ s', DoP s r.c s' → Inv s' ∧ (∃ φ', Cor φ' s' E) ∧ DL E (k + 1)) := ⟨fun s' => KNx.out s' k1n k6n⟩
      have KR13 := Kept.mk KB13x.out.range
      have KR15 := Kept.mk (KRr.out wx (Below.refl _ _))
      clear k1 k6
      go_wp2_with (first | (refine wpList_load_mid rfl 38 _ rfl b (off + k * 4) rfl _ _ hR.out Tryz.underlying38 rfl infoCall ?_) | (refine BigFrame.wpList_want rfl (fun K hK => wp_store_row 38 _ _ rfl wr.heap.size _ rfl rfl 38 _ (heap_alloc_new wr _) infoCall rfl rfl (hK _ _ ?_)); rw [World.setRow_alloc_new, hwx]) | (refine wpList_load_mid rfl 36 _ rfl g13 0 rfl _ _ KR13.out Tryz.underlying36 rfl infoDisk ?_) | (refine wpList_load_mid rfl 38 _ rfl g15 0 rfl _ _ KR15.out Tryz.underlying38 rfl infoCall ?_))
      refine Calls.mono KDo.out (fun e wy hp => ?_)
      obtain ⟨V', q', rfl, hdm, hby⟩ := hp
      have KBy : Kept (Below w.heap.size w wy) := ⟨KBx.out.trans (hby.mono KBx.out.size)⟩
      have Kby := Kept.mk hby
      have K13y := Kept.mk (KB13x.out.below hby)
      obtain ⟨wz, hwz⟩ : ∃ wz, wy.setRow g13 #[V'.n, V'.l, V'.p, V'.f, .int .i64 E.quota, .slice none 0 0, .int .i64 E.offAt, .int .i64 E.count, .bool E.off] = wz := ⟨_, rfl⟩
      have hsz : wz.heap.size = wy.heap.size := by rw [← hwz]; simp [World.setRow]
      have KDz : Kept (DM (fun i => G i ∨ (wx.heap.size ≤ i ∧ i < wy.heap.size)) wz E V') := ⟨hdm.far (by omega) (fun i hi hG => ⟨hG.elim .inl (fun h => .inr ⟨h, hi⟩), by rw [← hwz]; exact setRow_other wy g13 i _ (fun e => by
        subst e
        rcases hG with h | h
        · exact Kng.out h
        · have := Kg15.out; omega)⟩)⟩
      have KXz : Kept (Rx (fun i => (G i ∨ (wx.heap.size ≤ i ∧ i < wy.heap.size)) ∨ i = g13) w.heap.size wz d s k) := ⟨by
        rw [← hwz]
        exact ((KRxx.out.wider hby).sub (fun i hi => by
          rcases hi with (hi | hi) | hi
          · exact .inl (.inl hi)
          · exact .inr hi
          · exact .inl (.inr hi))).row (.inr rfl) _⟩
      have Kngz : Kept (¬ (G g13 ∨ (wx.heap.size ≤ g13 ∧ g13 < wy.heap.size))) := ⟨fun h => by
        rcases h with h | h
        · exact Kng.out h
        · have := Kg15.out; omega⟩
      have K13z : Kept (Bk wz g13 36 [V'.n, V'.l, V'.p, V'.f, .int .i64 E.quota, .slice none 0 0, .int .i64 E.offAt, .int .i64 E.count, .bool E.off]) := ⟨by rw [← hwz]; exact setRow_heap wy g13 _ _ _ _ K13y.out⟩
      have KBz : Kept (Below w.heap.size w wz) := ⟨by rw [← hwz]; exact below_row KBy.out Kg13.out.1 _⟩
      have hone := Kept.mk (dm_ones hdm E.quota E.offAt E.count E.off)
      have KR15z : Kept (wz.rangeAt g15 0 [.int .i64 kd, .string pt, .string pto, .slice av ln cv]) := ⟨fun j u hu => by
        refine cell_of (KRr.out wy Kby.out j u hu) ?_
        rw [← hwz]
        exact setRow_other wy g13 g15 _ (by have := Kg15.out; omega)⟩
      obtain ⟨GZ, hGZ⟩ : ∃ GZ : Nat → Prop, (fun i => G i ∨ (wx.heap.size ≤ i ∧ i < wy.heap.size)) = GZ := ⟨_, rfl⟩
      have KXz : Kept (Rx (fun i => GZ i ∨ i = g13) w.heap.size wz d s k) := ⟨by rw [← hGZ]; exact KXz.out⟩
      have Kngz : Kept (¬ GZ g13) := ⟨by rw [← hGZ]; exact Kngz.out⟩
      have KDz : Kept (DM GZ wz E V') := ⟨by rw [← hGZ]; exact KDz.out⟩
      have KPz := Kept.mk (KPd.out _ wz KXz.out KBz.out)
      have Kg3z : Kept (g13 < wz.heap.size) := ⟨K13z.out.lt⟩
      clear hdm hby hsz KDo KPd hGZ
      go_wp2_with (first | (refine BigFrame.wpList_want rfl (fun K hK => wp_store_row 36 _ _ rfl g13 #[V'.n, V'.l, V'.p, V'.f, .int .i64 E.quota, .slice none 0 0, .int .i64 E.offAt, .int .i64 E.count, .bool E.off] rfl rfl 36 _ K13y.out infoDisk rfl hone.out (hK _ _ ?_)); rw [hwz]) | (refine wpList_load_mid rfl 38 _ rfl g15 0 rfl _ _ KR15z.out Tryz.underlying38 rfl infoCall ?_))
      refine Calls.mono KPz.out (fun e w7 hp => ?_)
      obtain ⟨q7, s7, rfl, hx7, hdo, hb7⟩ := hp
      obtain ⟨hi7, ⟨φ7, hc7⟩, hd7⟩ := KNx.out s7 hdo
      have KX7 := Kept.mk hx7
      have KI7 := Kept.mk hi7
      have KC7 := Kept.mk hc7
      have KD7 := Kept.mk hd7
      have KM7 : Kept (DM GZ w7 E V') := ⟨KDz.out.far hb7.bel.size (fun i hi hG => ⟨hG, hb7.g i (.inl hG)⟩)⟩
      have K137 : Kept (Bk w7 g13 36 [V'.n, V'.l, V'.p, V'.f, .int .i64 E.quota, .slice none 0 0, .int .i64 E.offAt, .int .i64 E.count, .bool E.off]) := ⟨K13z.out.far (hb7.g g13 (.inr rfl))⟩
      have KB7 : Kept (Below w.heap.size w w7) := ⟨KBz.out.trans hb7.bel⟩
      clear hx7 hi7 hc7 hd7 hdo hb7 KPz hwz
      go_wp2
      go_roundw
      case rel => exact ⟨k + 1, s7, φ7, E, V', GZ, by omega, by go_num, Kngz.out, KX7.out, KI7.out, KC7.out, KD7.out, KM7.out, K137.out, KB7.out⟩
      case measure => simp [intOf]; omega
    · have hki : ¬ (k : Int) < (cs2.length : Int) := by omega
      have hk60 := Kl2.out.2
      obtain ⟨a5, b5, hds5, hab5⟩ := KRx.out
      have hfit := (fits (show a5 + b5 ≤ 123 by omega)).1
      have hfn := (fits (show a5 + b5 ≤ 123 by omega)).2.1
      have Ksm : Kept (D.names.length ≤ 60 ∧ D.files.length ≤ 60 ∧ ∀ x ∈ D.files, x.1.length ≤ 1000000) := ⟨by
        have h1 := KDl.out.n
        have h2 := KDl.out.f
        exact ⟨by omega, by omega, fun x hx => by have := (KDl.out.x x hx).1; omega⟩⟩
      have KCr := Kept.mk (crash_ds _ xs3 hds5.ds (KR3.out.later KBr.out (Nat.le_refl _)) KA.out.1 hfit)
      obtain ⟨n5, hn5⟩ : ∃ n5, a5 * (b5 + 2) = n5 := ⟨_, rfl⟩
      rw [hn5] at KCr hds5 hfn hfit
      have Kfit := Kept.mk (And.intro hfit hfn)
      clear hds5 hfit hfn hn5 KRx hab5 KD2
      go_wp2_with fail
      refine Calls.mono KCr.out (fun e w6 hp => ?_)
      obtain ⟨d6, s6, ks6, ps6, rfl, hd6, hcr6, hds6, hb6⟩ := hp
      have KB6 : Kept (Below w.heap.size w w6) := ⟨KBr.out.trans (hb6.mono KBr.out.size)⟩
      obtain rfl := KCo.out.folders hcr6.hks
      have KD6 := Kept.mk hd6
      have Kcr6 := Kept.mk hcr6
      have KDs6 := Kept.mk hds6
      have KDm6 := Kept.mk (KDm.out.later hb6)
      have K136 := Kept.mk (KB13.out.below hb6)
      have KR13 := Kept.mk K136.out.range
      have KCd := Kept.mk (dCrash_any D V (.slice x3 xs3.length y3) xs3 w6 KDm6.out KDl.out (by omega) KCo.out.L.srt (KCo.out.crng xs3 (foldersF D.pend)) (KR3.out.later KB6.out (Nat.le_refl _)) KA.out.1)
      have KDc := Kept.mk (KDl.out.crash KCo.out.L.srt xs3)
      obtain ⟨CD, hCD⟩ : ∃ CD, crashF D xs3 (foldersF D.pend) = CD := ⟨_, rfl⟩
      obtain ⟨φ6, hφ6⟩ := KCo.out.crash hcr6
      have KC6 := Kept.mk hφ6
      have Ktw : Kept (∀ (s'' : Ps) (cs'' : List Int) (ks2 ps2 : List ByteArray), CrD s6 cs'' s'' ks2 ps2 → Told s'' CD ∧ s''.dark = false ∧ s''.count = 0) := ⟨fun s'' cs'' ks2 ps2 h => by rw [← hCD]; exact told_twice KCo.out Kcr6.out h⟩
      have Kof : Kept (CD.off = false ∧ CD.count = 0) := ⟨by rw [← hCD]; exact ⟨rfl, rfl⟩⟩
      rw [hCD] at KCd KDc KC6
      clear hd6 hcr6 hds6 hb6 KCr hφ6 hCD
      go_wp2_with (refine wpList_load_mid rfl 36 _ rfl g13 0 rfl _ _ KR13.out Tryz.underlying36 rfl infoDisk ?_)
      refine Calls.mono KCd.out (fun e w7 hp => ?_)
      obtain ⟨V7, rfl, hdm7, hb7⟩ := hp
      have KB7 : Kept (Below w.heap.size w w7) := ⟨KB6.out.trans (hb7.mono KB6.out.size)⟩
      have KDm7 := Kept.mk hdm7
      have KDm7o := Kept.mk (KDm6.out.later hb7)
      have K137 := Kept.mk (K136.out.below hb7)
      have KD7 := Kept.mk (KD6.out.later hb7)
      have KDs7 := Kept.mk (KDs6.out.later hb7)
      obtain ⟨w8, hw8⟩ : ∃ w8, w7.alloc (.cells #[V7.n, V7.l, V7.p, V7.f, .int .i64 CD.quota, .slice none 0 0, .int .i64 CD.offAt, .int .i64 CD.count, .bool CD.off] 36) = w8 := ⟨_, rfl⟩
      have hb8 : Below w7.heap.size w7 w8 := by rw [← hw8]; exact (Below.refl _ _).alloc (Nat.le_refl _) _
      obtain ⟨g17, hg17⟩ : ∃ g17, w7.heap.size = g17 := ⟨_, rfl⟩
      have K178 : Kept (Bk w8 g17 36 [V7.n, V7.l, V7.p, V7.f, .int .i64 CD.quota, .slice none 0 0, .int .i64 CD.offAt, .int .i64 CD.count, .bool CD.off]) := ⟨by rw [← hw8, ← hg17]; exact Bk.new w7 _ _⟩
      have KB8 : Kept (Below w.heap.size w w8) := ⟨KB7.out.trans (hb8.mono KB7.out.size)⟩
      have KDm8 := Kept.mk (KDm7.out.later hb8)
      have KDm8o := Kept.mk (KDm7o.out.later hb8)
      have K138 := Kept.mk (K137.out.below hb8)
      have KD8 := Kept.mk (KD7.out.later hb8)
      have KDs8 := Kept.mk (KDs7.out.later hb8)
      have hz5 : Kept (∀ o', (w7.alloc o').heap[g17]? = some o') := ⟨fun o' => by rw [← hg17]; exact heap_alloc_new w7 o'⟩
      have hsr : Kept (∀ cs0 : Array Value, (w7.alloc (.cells cs0 36)).setRow g17 #[V7.n, V7.l, V7.p, V7.f, .int .i64 CD.quota, .slice none 0 0, .int .i64 CD.offAt, .int .i64 CD.count, .bool CD.off] = w8) := ⟨fun cs0 => by rw [← hg17, World.setRow_alloc_new, hw8]⟩
      have hone := Kept.mk (dm_ones hdm7 CD.quota CD.offAt CD.count CD.off)
      have Ksc : Kept (CD.names.length ≤ 60 ∧ CD.files.length ≤ 60 ∧ ∀ x ∈ CD.files, x.1.length ≤ 1000000) := ⟨by
        have h1 := KDc.out.n
        have h2 := KDc.out.f
        exact ⟨by omega, by omega, fun x hx => by have := (KDc.out.x x hx).1; omega⟩⟩
      have KS1 : Kept (∀ W, Below w8.heap.size w8 W → Calls Tryz.prog 12 #[.pointer (some ⟨d6, 0, none⟩), .agg #[V7.n, V7.l, V7.p, V7.f, .int .i64 CD.quota, .slice none 0 0, .int .i64 CD.offAt, .int .i64 CD.count, .bool CD.off]] W fun e w' => e = .returned (.bool true) ∧ Below W.heap.size W w') := ⟨fun W hW => same_law CD V7 W (KD8.out.later hW) (by have := Kfit.out; omega) (KDm8.out.later hW) (by have := Ksc.out; omega) KC6.out.nrng Ksc.out.2.2 (by have := Ksc.out; omega) KC6.out.toldD KC6.out.dark KC6.out.count⟩
      have KS2 : Kept (∀ W, Below w8.heap.size w8 W → Calls Tryz.prog 12 #[.pointer (some ⟨d, 0, none⟩), .agg #[V.n, V.l, V.p, V.f, .int .i64 D.quota, .slice none 0 0, .int .i64 D.offAt, .int .i64 D.count, .bool D.off]] W fun e w' => e = .returned (.bool true) ∧ Below W.heap.size W w') := ⟨fun W hW => same_law D V W (KDs8.out.later hW) (by have := Kfit.out; omega) (KDm8o.out.later hW) (by have := Ksm.out; omega) KCo.out.nrng Ksm.out.2.2 (by have := Ksm.out; omega) KCo.out.toldD KCo.out.dark KCo.out.count⟩
      have KS3 : Kept (∀ (W : World) (d9 n9 m9 lo9 : Nat) (s9 : Ps), Below w8.heap.size w8 W → Ds lo9 W d9 s9 n9 m9 → n9 ≤ 900000 → Told s9 CD → s9.dark = false → s9.count = 0 → Calls Tryz.prog 12 #[.pointer (some ⟨d9, 0, none⟩), .agg #[V7.n, V7.l, V7.p, V7.f, .int .i64 CD.quota, .slice none 0 0, .int .i64 CD.offAt, .int .i64 CD.count, .bool CD.off]] W fun e w' => e = .returned (.bool true) ∧ Below W.heap.size W w') := ⟨fun W d9 n9 m9 lo9 s9 hW hds hn ht hk hc => same_law CD V7 W hds hn (KDm8.out.later hW) (by have := Ksc.out; omega) KC6.out.nrng Ksc.out.2.2 (by have := Ksc.out; omega) ht (by rw [hk, Kof.out.1]) (by rw [hc, Kof.out.2])⟩
      clear hdm7 hb7 hb8 KCd KD7 KDs7 KDm7 KDm7o K137 KDm6 K136 KR13
      go_upto_region 19 with (refine BigFrame.wpList_want rfl (fun K hK => wp_store_row 36 _ _ rfl g17 #[V7.n, V7.l, V7.p, V7.f, .int .i64 CD.quota, .slice none 0 0, .int .i64 CD.offAt, .int .i64 CD.count, .bool CD.off] rfl rfl 36 _ (hz5.out _) infoDisk rfl hone.out (hK _ _ ?_)); rw [hsr.out])
      clear hz5 hsr hone hw8
      have f0 := K178.out.cell 0 _ rfl
      have f1 := K178.out.cell 1 _ rfl
      have f2 := K178.out.cell 2 _ rfl
      have f3 := K178.out.cell 3 _ rfl
      have f4 := K178.out.cell 4 _ rfl
      have f5 := K178.out.cell 5 _ rfl
      have f6 := K178.out.cell 6 _ rfl
      have f7 := K178.out.cell 7 _ rfl
      have f8 := K178.out.cell 8 _ rfl
      go_wp2_with fail
      refine Calls.mono (KS1.out w8 (Below.refl _ _)) (fun e w9 hp => ?_)
      obtain ⟨rfl, hb9⟩ := hp
      have KB9 := Kept.mk hb9
      have K139 := Kept.mk (K138.out.below hb9)
      clear hb9 f0 f1 f2 f3 f4 f5 f6 f7 f8
      have f0 := K139.out.cell 0 _ rfl
      have f1 := K139.out.cell 1 _ rfl
      have f2 := K139.out.cell 2 _ rfl
      have f3 := K139.out.cell 3 _ rfl
      have f4 := K139.out.cell 4 _ rfl
      have f5 := K139.out.cell 5 _ rfl
      have f6 := K139.out.cell 6 _ rfl
      have f7 := K139.out.cell 7 _ rfl
      have f8 := K139.out.cell 8 _ rfl
      go_wp2_with fail
      refine Calls.mono (KS2.out w9 KB9.out) (fun e w10 hp => ?_)
      obtain ⟨rfl, hb10⟩ := hp
      have KB10 : Kept (Below w8.heap.size w8 w10) := ⟨KB9.out.trans (hb10.mono KB9.out.size)⟩
      have KB10w : Kept (Below w.heap.size w w10) := ⟨KB8.out.trans (KB10.out.mono KB8.out.size)⟩
      have KCr := Kept.mk (crash_ds (.slice x4 xs4.length y4) xs4 (KD8.out.later KB10.out) (KR4.out.later KB10w.out (Nat.le_refl _)) KA.out.2 (by have := Kfit.out; omega))
      clear hb10 f0 f1 f2 f3 f4 f5 f6 f7 f8
      go_wp2_with fail
      refine Calls.mono KCr.out (fun e w11 hp => ?_)
      obtain ⟨d11, s11, ks11, ps11, rfl, hd11, hcr11, -, hb11⟩ := hp
      have KB11 : Kept (Below w8.heap.size w8 w11) := ⟨KB10.out.trans (hb11.mono KB10.out.size)⟩
      have KB11w : Kept (Below w.heap.size w w11) := ⟨KB8.out.trans (KB11.out.mono KB8.out.size)⟩
      have Kt11 := Ktw.out _ _ _ _ hcr11
      have KS := Kept.mk (KS3.out w11 d11 _ _ _ s11 KB11.out hd11 (by have := Kfit.out; omega) Kt11.1 Kt11.2.1 Kt11.2.2)
      have K1711 := Kept.mk (K178.out.below KB11.out)
      clear hd11 hcr11 hb11 KCr Kt11
      have f0 := K1711.out.cell 0 _ rfl
      have f1 := K1711.out.cell 1 _ rfl
      have f2 := K1711.out.cell 2 _ rfl
      have f3 := K1711.out.cell 3 _ rfl
      have f4 := K1711.out.cell 4 _ rfl
      have f5 := K1711.out.cell 5 _ rfl
      have f6 := K1711.out.cell 6 _ rfl
      have f7 := K1711.out.cell 7 _ rfl
      have f8 := K1711.out.cell 8 _ rfl
      go_wp2_with fail
      refine Calls.mono KS.out (fun e w12 hp => ?_)
      obtain ⟨rfl, hb12⟩ := hp
      have KB12 : Kept (Below w.heap.size w w12) := ⟨KB11w.out.trans (hb12.mono KB11w.out.size)⟩
      clear hb12 KS f0 f1 f2 f3 f4 f5 f6 f7 f8
      go_wp2
      go_ret
      exact ⟨rfl, KB12.out⟩
end Go.Proofs.YtegdadkejheagaaGreatDoor
