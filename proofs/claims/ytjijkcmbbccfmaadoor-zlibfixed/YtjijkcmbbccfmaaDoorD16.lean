/-
  The document's reader: copies.
-/
import Derived.Test.YtjijkcmbbccfmaaDoorD14
import Derived.Deep.MidRow
import Derived.Deep.CutRange
namespace Go.Proofs.YtjijkcmbbccfmaaDoor
open Go.RowKit
set_option linter.unusedVariables false

theorem TT.range {w : World} {b : Nat} {sv : Value} {cs : List Int} (h : TT w b sv cs) : w.rangeAt b 0 (sv :: cs.map (Value.int .i64)) := by
  intro j v hv
  unfold TT at h
  simp only [World.cell?, h, Nat.zero_add]
  simpa using hv
theorem infoT : (Tryd.prog.info? 84).map (·.size) = some 17 := by kernel_rfl
/-- Was nothing met? -/
def eOf (w : World) (rb : Nat) : Nat :=
  match w.cell? ⟨rb, 4, none⟩ with
  | some (.int _ e) => if e = 0 then 1 else 0
  | _ => 0
theorem eOf_on {W0 w : World} {rb : Nat} {ob : Option Nat} {inV : Value} {p out : List Int} {most t : Nat} {E : Int} (h : Bts W0 w rb ob inV p most out t E) : eOf w rb = if E = 0 then 1 else 0 := by
  unfold eOf
  rw [h.cE]

/-- The copy itself; behind the distance's symbol. -/
def kM (most : Nat) (out : List Int) (n d : Int) (t : Nat) : Rs (List Int) :=
  if (out.length : Int) < d then .bad .form else match copyF most d.toNat n.toNat out with
    | none => .bad .limit
    | some o => .ok o t
def kD (p : List Int) (most : Nat) (out : List Int) (n x : Int) (t : Nat) : Rs (List Int) :=
  if 29 < x then .bad .form else (numF p (ddist x).2 t).bind fun u t3 => kM most out n ((ddist x).1 + u) t3
theorem numF_zero (p : List Int) (t : Nat) (h : t ≤ 8 * p.length) : numF p 0 t = .ok 0 t := by
  unfold numF
  rw [if_pos (by omega)]
  rfl
theorem match_k {p : List Int} {most : Nat} {c : Cd} {m : Int} (hok : CdOk c m) (hm : 0 < m) (s : Int) (hs : 257 ≤ s ∧ s ≤ 285) (out : List Int) (t : Nat) (ht : t ≤ 8 * p.length) :
    matchF p most c s out t = (numF p (dlen s).2 t).bind fun v t1 => (symF p c t1).bind fun x t2 => kD p most out ((dlen s).1 + v) x t2 := by
  have hl : lengthF p s t = (numF p (dlen s).2 t).bind fun v t1 => .ok ((dlen s).1 + v) t1 := by
    unfold lengthF dlen
    rw [if_neg (by omega)]
    by_cases h1 : s = 285
    · rw [if_pos h1, if_pos h1, numF_zero p t ht]
      rfl
    · rw [if_neg h1, if_neg h1]
      by_cases h2 : s < 265
      · rw [if_pos (by omega), if_pos h2, numF_zero p t ht]
        dsimp only [Rs.bind]
        congr 1
        omega
      · rw [if_neg (by omega), if_neg h2]
        have e1 : ((s - 257) / 4 - 1).toNat = ((s - 261) / 4).toNat := by omega
        have e2 : (s - 257) % 4 = (s - 261) % 4 := by omega
        rw [e1, e2]
        dsimp only
        rcases numF p ((s - 261) / 4).toNat t with ⟨v, t'⟩ | er <;> rfl
  unfold matchF
  rw [hl]
  rcases numF p (dlen s).2 t with ⟨v, t1⟩ | er
  · dsimp only [Rs.bind]
    unfold distF
    rcases hq : symF p c t1 with ⟨x, t2⟩ | er
    · obtain ⟨hx0, -, -, ht2⟩ := symF_ok hok hm hq
      dsimp only [Rs.bind]
      unfold kD
      by_cases h29 : 29 < x
      · rw [if_pos h29, if_pos h29]
      · rw [if_neg h29, if_neg h29]
        unfold ddist
        by_cases h4 : x < 4
        · rw [if_pos h4, if_pos h4, numF_zero p t2 ht2]
          dsimp only [Rs.bind]
          unfold kM
          rw [show 1 + x = x + 1 + 0 from by omega]
          rfl
        · rw [if_neg h4, if_neg h4]
          dsimp only
          rcases numF p (x / 2 - 1).toNat t2 with ⟨u, t3⟩ | er <;> rfl
    · rfl
  · rfl
theorem dlen_rng (s : Int) (hs : 257 ≤ s ∧ s ≤ 285) : 3 ≤ (dlen s).1 ∧ (dlen s).1 ≤ 1000 ∧ (dlen s).2 ≤ 5 := by
  unfold dlen
  split
  · simp
  · split
    · simp
      omega
    · have h1 : ((s - 261) / 4).toNat ≤ 5 := by omega
      have h2 : (2 : Int) ^ ((s - 261) / 4).toNat ≤ 2 ^ 5 := pow2_le h1
      have h3 : (0 : Int) < 2 ^ ((s - 261) / 4).toNat := Int.pow_pos (by omega)
      have h4 : (4 + (s - 261) % 4) * 2 ^ ((s - 261) / 4).toNat ≤ 7 * 2 ^ 5 := Int.mul_le_mul (by omega) h2 (by omega) (by omega)
      have h5 : 0 ≤ (4 + (s - 261) % 4) * 2 ^ ((s - 261) / 4).toNat := Int.mul_nonneg (by omega) (by omega)
      simp only [Int.reducePow, Int.reduceMul] at h4
      dsimp only
      omega
theorem ddist_rng (s : Int) (hs : 0 ≤ s ∧ s ≤ 29) : 1 ≤ (ddist s).1 ∧ (ddist s).1 ≤ 40000 ∧ (ddist s).2 ≤ 13 := by
  unfold ddist
  split
  · simp
    omega
  · have h1 : (s / 2 - 1).toNat ≤ 13 := by omega
    have h2 : (2 : Int) ^ (s / 2 - 1).toNat ≤ 2 ^ 13 := pow2_le h1
    have h3 : (0 : Int) < 2 ^ (s / 2 - 1).toNat := Int.pow_pos (by omega)
    have h4 : (2 + s % 2) * 2 ^ (s / 2 - 1).toNat ≤ 3 * 2 ^ 13 := Int.mul_le_mul (by omega) h2 (by omega) (by omega)
    have h5 : 0 ≤ (2 + s % 2) * 2 ^ (s / 2 - 1).toNat := Int.mul_nonneg (by omega) (by omega)
    simp only [Int.reducePow, Int.reduceMul] at h4
    dsimp only
    omega

/-- What is put out, or what was met; nothing comes back. -/
def AfterV (W0 w w' : World) (rb : Nat) (ob : Option Nat) (inV : Value) (p : List Int) (most : Nat) (R : Rs (List Int)) (e : Ending) : Prop :=
  ∃ ob' out' t' E', e = .returned (.tuple #[]) ∧ StD R out' t' E' ∧ Bts W0 w' rb ob' inV p most out' t' E' ∧ Mv rb ob ob' w w'

set_option maxHeartbeats 4000000 in
set_option maxRecDepth 100000 in
theorem dcopies_any {W0 w : World} {rb : Nat} {ob : Option Nat} {inV : Value} {p out : List Int} {most t : Nat} {L : List Int} {sv : Value} (s : Int) (hs : 257 ≤ s) (hs2 : s ≤ 1000) (hlen : L.length ≤ 400)
    (hsv : Rd .i64 (Sep rb ob) w sv (symsF L 15)) (h : Bts W0 w rb ob inV p most out t 0) :
    Calls Tryd.prog 56 #[.pointer (some ⟨rb, 0, none⟩), .int .i64 s, tabV sv L] w fun e w' => AfterV W0 w w' rb ob inV p most (matchF p most (mkCd L) s out t) e := by
  obtain ⟨R, hRdef⟩ : ∃ R, matchF p most (mkCd L) s out t = R := ⟨_, rfl⟩
  unfold tabV
  obtain ⟨sa, sc, rfl, -, -, -⟩ := hsv.form
  have hrb := h.rb_lt
  have KOB := Kept.mk h.ob_ge
  have hFw : Fr rb ob w (w.alloc (.cells (Value.slice sa (symsF L 15).length sc :: (csF L 16 0).map (Value.int .i64)).toArray 84)) := (Fr.refl rb ob w).alloc _
  have h1 : Bts W0 (w.alloc (.cells (Value.slice sa (symsF L 15).length sc :: (csF L 16 0).map (Value.int .i64)).toArray 84)) rb ob inV p most out t 0 := h.far ((Below.refl _ w).alloc (Nat.le_refl _) _)
  rw [hRdef]
  by_cases hbig : 285 < s
  · have hRf : R = .bad .form := by
      rw [← hRdef]
      unfold matchF lengthF
      rw [if_pos hbig]
    have hfa := dfail_any h1
    rw [if_pos rfl] at hfa
    have KFA := Kept.mk hfa
    have KRf := Kept.mk hRf
    have KFw := Kept.mk hFw
    clear hRdef hRf h h1 hFw hsv hfa
    go_enter Tryd.func56, Tryd.ntmps56
    go_wp2_with fail
    refine Calls.mono KFA.out (fun e w2 hp => ?_)
    obtain ⟨rfl, hB2, hF2⟩ := hp
    have KB2 := Kept.mk hB2
    have KF2 := Kept.mk hF2
    clear hB2 hF2
    go_wp2
    refine bodyPost_ret (results_none rfl _ _ _) rfl ?_
    exact ⟨ob, out, t, 4, rfl, Or.inr ⟨.form, KRf.out, rfl⟩, KB2.out, (KFw.out.trans KF2.out).mv⟩
  · have hs285 : s ≤ 285 := by omega
    have hst : PreD R ((numF p (dlen s).2 t).bind fun v t1 => (symF p (mkCd L) t1).bind fun x t2 => kD p most out ((dlen s).1 + v) x t2) 0 := Or.inl ⟨rfl, by rw [← hRdef, match_k (mkCd_ok L hlen 400 (by omega)) (by omega) s ⟨hs, hs285⟩ out t h.tle]⟩
    obtain ⟨hn3, hn258, hm5⟩ := dlen_rng s ⟨hs, hs285⟩
    have KL := Kept.mk (dLength_any (w.alloc (.cells (Value.slice sa (symsF L 15).length sc :: (csF L 16 0).map (Value.int .i64)).toArray 84)) s hs hs285)
    generalize (dlen s).1 = n0 at *
    generalize (dlen s).2 = m at *
    obtain ⟨R1, hR1, hn1⟩ := preD_bind hst
    have KN1 := Kept.mk (dnumR m (by omega) hR1 h1)
    have KX1 := Kept.mk hn1
    have KFw := Kept.mk hFw
    have hTT : TT (w.alloc (.cells (Value.slice sa (symsF L 15).length sc :: (csF L 16 0).map (Value.int .i64)).toArray 84)) w.heap.size (.slice sa (symsF L 15).length sc) (csF L 16 0) := by
      unfold TT
      exact heap_alloc_new w _
    have KTT : Kept (∀ wr, Fr rb ob (w.alloc (.cells (Value.slice sa (symsF L 15).length sc :: (csF L 16 0).map (Value.int .i64)).toArray 84)) wr → TT wr w.heap.size (.slice sa (symsF L 15).length sc) (csF L 16 0)) := ⟨fun wr hf => hTT.far (hf.block _ (by simp) (by omega) (fun e => by have := (KOB.out _ e.symm).2; omega))⟩
    have KSV : Kept (∀ wr, Fr rb ob (w.alloc (.cells (Value.slice sa (symsF L 15).length sc :: (csF L 16 0).map (Value.int .i64)).toArray 84)) wr → Rd .i64 (Sep rb ob) wr (.slice sa (symsF L 15).length sc) (symsF L 15)) := ⟨fun wr hf => hsv.far (Nat.le_trans (by simp) hf.size) fun b hb hS => ⟨hS, by rw [hf.block b (by simp; omega) hS.1 hS.2, Below.heap_alloc _ _ _ hb]⟩⟩
    have hpm : (2 : Int) ^ m ≤ 2 ^ 5 := pow2_le hm5
    simp only [Int.reducePow] at hpm
    have HI : Kept ((Tryd.prog.info? 84).map (·.size) = some (Value.slice sa (symsF L 15).length sc :: (csF L 16 0).map (Value.int .i64)).length) := ⟨by rw [infoT]; simp [csF_length]⟩
    clear hRdef hst hR1 hn1 hFw h h1 hTT hsv
    go_enter Tryd.func56, Tryd.ntmps56
    go_wp2_with fail
    refine Calls.mono KL.out (fun e w2 hp => ?_)
    obtain ⟨rfl, rfl⟩ := hp
    go_wp2_with fail
    refine Calls.mono KN1.out (fun e w3 hp => ?_)
    obtain ⟨v, t1, E1, rfl, hv, hS1, hB1, hF1⟩ := hp
    have hv0 := hv.1
    have hv1 : v < 32 := by have := hv.2; omega
    obtain ⟨R2, hR2, hn2⟩ := preD_bind (KX1.out _ _ _ hS1)
    have KSY := Kept.mk (dsymbol_tab (R := R2) (L := L) hlen (KSV.out w3 hF1) hR2 hB1)
    have KX2 := Kept.mk hn2
    have HR := Kept.mk (KTT.out w3 hF1).range
    have KF1 := Kept.mk hF1
    have KR2 := Kept.mk hR2
    clear hv hS1 hB1 hF1 hR2 hn2
    go_wp2_with (first | (refine wpList_load_mid rfl 84 _ rfl w.heap.size 0 rfl _ _ HR.out Tryd.underlying84 rfl HI.out ?_) | fail)
    refine Calls.mono KSY.out (fun e w4 hp => ?_)
    obtain ⟨x, t2, E2, rfl, hS2, hz2, hB2, hF2⟩ := hp
    have cE2 := hB2.cE
    have KS2 := Kept.mk hS2
    have KX3 := Kept.mk (KX2.out _ _ _ hS2)
    have KB2 := Kept.mk hB2
    have KF2 := Kept.mk (KF1.out.trans hF2)
    have KZ2 := Kept.mk hz2
    clear hS2 hB2 hF2 hz2
    by_cases hE2 : E2 = 0
    · have hxr : 0 ≤ x := by
        rcases KS2.out with ⟨h1, -⟩ | ⟨er, -, h2⟩
        · rcases KR2.out with ⟨-, h3⟩ | ⟨er, h3, -⟩
          · rw [h3] at h1
            exact (symF_ok (mkCd_ok L hlen 400 (by omega)) (by omega) h1).1
          · rw [h3] at h1
            cases h1
        · exact absurd (h2.symm.trans hE2) (er_ne er)
      have hRk := preD_on KX3.out hE2
      subst hE2
      by_cases h29 : 29 < x
      · have hRf : R = .bad .form := by
          rw [hRk]
          unfold kD
          rw [if_pos h29]
        have hfa := dfail_any KB2.out
        rw [if_pos rfl] at hfa
        have KFA := Kept.mk hfa
        have KRf := Kept.mk hRf
        clear hfa hRf hRk
        go_wp2_with fail
        refine Calls.mono KFA.out (fun e w5 hp => ?_)
        obtain ⟨rfl, hB5, hF5⟩ := hp
        have cE5 := hB5.cE
        have KB5 := Kept.mk hB5
        have KF5 := Kept.mk hF5
        clear hB5 hF5
        go_wp2
        refine bodyPost_ret (results_none rfl _ _ _) rfl ?_
        exact ⟨ob, out, t2, 4, rfl, Or.inr ⟨.form, KRf.out, rfl⟩, KB5.out, (KFw.out.trans (KF2.out.trans KF5.out)).mv⟩
      · have hx29 : x ≤ 29 := by omega
        obtain ⟨hd1, hd4, hm13⟩ := ddist_rng x ⟨hxr, hx29⟩
        have hst : PreD R ((numF p (ddist x).2 t2).bind fun u t3 => kM most out (n0 + v) ((ddist x).1 + u) t3) 0 := Or.inl ⟨rfl, by
          rw [hRk]
          unfold kD
          rw [if_neg h29]⟩
        have KD := Kept.mk (dDistance_any w4 x hxr hx29)
        generalize (ddist x).1 = d0 at *
        generalize (ddist x).2 = m2 at *
        obtain ⟨R3, hR3, hn3'⟩ := preD_bind hst
        have KN3 := Kept.mk (dnumR m2 (by omega) hR3 KB2.out)
        have KX4 := Kept.mk hn3'
        have hpm2 : (2 : Int) ^ m2 ≤ 2 ^ 13 := pow2_le hm13
        simp only [Int.reducePow] at hpm2
        clear hst hR3 hn3' hRk
        go_wp2_with fail
        refine Calls.mono KD.out (fun e w5 hp => ?_)
        obtain ⟨rfl, rfl⟩ := hp
        go_wp2_with fail
        refine Calls.mono KN3.out (fun e w6 hp => ?_)
        obtain ⟨u, t3, E3, rfl, hu, hS3, hB3, hF3⟩ := hp
        have hu0 := hu.1
        have hu1 : u < 8192 := by have := hu.2; omega
        have cE3 := hB3.cE
        obtain ⟨outV, hDB, hown, hobe⟩ := hB3.blk
        have c2 := hDB.c2
        obtain ⟨oa, oc, rfl, -, hoc, hom⟩ := hown.rd.form
        have KX5 := Kept.mk (KX4.out _ _ _ hS3)
        have KB3 := Kept.mk hB3
        have KF3 := Kept.mk (KF2.out.trans hF3)
        clear hu hS3 hB3 hF3 hDB hown hobe hom cE2
        by_cases hE3 : E3 = 0
        · have hRk := preD_on KX5.out hE3
          subst hE3
          unfold kM at hRk
          by_cases hfar : (out.length : Int) < d0 + u
          · rw [if_pos hfar] at hRk
            have hfa := dfail_any KB3.out
            rw [if_pos rfl] at hfa
            have KFA := Kept.mk hfa
            have KRf := Kept.mk hRk
            clear hfa hRk
            go_wp2_with fail
            refine Calls.mono KFA.out (fun e w5 hp => ?_)
            obtain ⟨rfl, hB5, hF5⟩ := hp
            have cE5 := hB5.cE
            have KB5 := Kept.mk hB5
            have KF5 := Kept.mk hF5
            clear hB5 hF5
            go_wp2
            go_loopw [10] (fun s10 wr => s10 = .int .i64 0 ∧ wr = w5) (fun _ _ => 0)
            case atStart => exact ⟨rfl, rfl⟩
            case round =>
              obtain ⟨rfl, rfl⟩ := hrel
              go_wp2
              refine bodyPost_end (results_none rfl _ _ _) rfl ?_
              exact ⟨ob, out, t3, 4, rfl, Or.inr ⟨.form, KRf.out, rfl⟩, KB5.out, (KFw.out.trans (KF3.out.trans KF5.out)).mv⟩
          · rw [if_neg hfar] at hRk
            obtain ⟨n, hn⟩ : ∃ n : Nat, n0 + v = n := ⟨(n0 + v).toNat, by omega⟩
            obtain ⟨d, hd⟩ : ∃ d : Nat, d0 + u = d := ⟨(d0 + u).toNat, by omega⟩
            rw [hn, hd, Int.toNat_natCast, Int.toNat_natCast] at hRk
            have hst : PreD R (match (generalizing := false) copyF most d n out with
              | none => .bad .limit
              | some o => .ok o t3) 0 := Or.inl ⟨rfl, hRk⟩
            have KST := Kept.mk hst
            have KDLE : Kept (d ≤ out.length) := ⟨by omega⟩
            have hd0 : 0 < d := by omega
            have KHN := Kept.mk hn
            clear hst hRk
            go_upto_if 67 with fail
            go_cut [67] from 54 to 69 (fun _ wx => wx = w6)
            case first =>
              go_wp2
              go_meet
              case rel => rfl
            case rest =>
            subst hcut
            clear h29 hx29 hfar hbig
            go_wp2
            go_loopw [10] (fun s10 wr => ∃ (i : Nat) (o : List Int) (ob' : Option Nat) (E' : Int), i ≤ n ∧ s10 = .int .i64 i ∧ d ≤ o.length ∧ PreD R (match (generalizing := false) copyF most d (n - i) o with
              | none => .bad .limit
              | some o => .ok o t3) E' ∧ Bts W0 wr rb ob' inV p most o t3 E' ∧ Mv rb ob ob' w wr) (fun s10 _ => n - (intOf s10).toNat)
            case atStart => exact ⟨0, out, ob, 0, by omega, rfl, KDLE.out, KST.out, KB3.out, (KFw.out.trans KF3.out).mv⟩
            case round =>
              obtain ⟨i, o, ob', E', hi, rfl, hdo, hst, hB, hM⟩ := hrel
              have cE := hB.cE
              have hol : o.length ≤ 1048576 := by have := hB.lo; have := hB.hm; omega
              obtain ⟨outV, hDB, hown, hobe⟩ := hB.blk
              have c2 := hDB.c2
              have KST2 := Kept.mk hst
              have KB := Kept.mk hB
              have KM := Kept.mk hM
              have KAO := Kept.mk hB.ao
              clear hst hB hM hDB hobe
              by_cases hE' : E' = 0
              · subst hE'
                have hRk := preD_on KST2.out rfl
                by_cases hlt : i < n
                · rw [show n - i = (n - (i + 1)) + 1 from by omega, copyF] at hRk
                  obtain ⟨ob0, oo, oc2, rfl, hobl, hoc2, -, -, hcells⟩ := hown.rd.open (by omega)
                  have hidx : (o.length : Int) - d = ((o.length - d : Nat) : Int) := by omega
                  have hcl := hcells (o.length - d) (by omega)
                  have hby := KAO.out.getD (by omega) (o.length - d)
                  generalize hgy : o.getD (o.length - d) 0 = y at *
                  have KP := Kept.mk (fun j => dput_any y hby.1 hby.2 (KB.out.drewN j))
                  have KRk := Kept.mk hRk
                  have hlti : (i : Int) < (n : Int) := by omega
                  have hidx2 : ((o.length - d : Nat) : Int) < (o.length : Int) := by omega
                  clear hcells hown hRk hgy
                  go_upto_region 16 with fail
                  refine wp_region_last _ 14 (by kernel_rfl) (by kernel_rfl) rfl rfl ?_
                  simp only [List.take_succ_cons, List.take_zero]
                  repeat (go_big_quiet_step (fail))
                  refine wpQuiet_nil ?_
                  intro mm
                  go_simp
                  refine Calls.mono (KP.out mm) (fun e w9 hp => ?_)
                  obtain ⟨rfl, ob9, hB9, hM9⟩ := hp
                  have hMM : Mv rb ob ob9 w w9 := KM.out.trans ⟨((Fr.refl rb ob' wr).drewN mm).trans hM9.fr, hM9.at_⟩
                  have KB9 := Kept.mk hB9
                  have KM9 := Kept.mk hMM
                  clear hB9 hM9 hMM
                  go_wp2
                  go_roundw
                  case rel =>
                    by_cases hfull : most ≤ o.length
                    · have e : dput most y o 0 = (o, 10) := by simp [dput, hfull]
                      have hk := KRk.out
                      rw [if_pos hfull] at hk
                      have hb := KB9.out
                      rw [e] at hb
                      exact ⟨i + 1, o, ob9, 10, by omega, by go_num, hdo, Or.inr ⟨.limit, hk, rfl⟩, hb, KM9.out⟩
                    · have e : dput most y o 0 = (o ++ [y], 0) := by simp [dput, hfull]
                      have hk := KRk.out
                      rw [if_neg hfull] at hk
                      have hb := KB9.out
                      rw [e] at hb
                      exact ⟨i + 1, o ++ [y], ob9, 0, by omega, by go_num, by simp; omega, Or.inl ⟨rfl, hk⟩, hb, KM9.out⟩
                  case measure => simp [intOf]; omega
                · have hlti : ¬ (i : Int) < (n : Int) := by omega
                  rw [show n - i = 0 from by omega, copyF] at hRk
                  have KRk := Kept.mk hRk
                  clear hRk hown
                  go_wp2
                  refine bodyPost_end (results_none rfl _ _ _) rfl ?_
                  exact ⟨ob', o, t3, 0, rfl, Or.inl ⟨KRk.out, rfl⟩, KB.out, KM.out⟩
              · obtain ⟨er, her1, her2⟩ := preD_off KST2.out hE'
                have KE := Kept.mk her1
                have KE2 := Kept.mk her2
                clear her1 her2 hown
                by_cases hlti : (i : Int) < (n : Int)
                · go_wp2
                  refine bodyPost_end (results_none rfl _ _ _) rfl ?_
                  exact ⟨ob', o, t3, E', rfl, Or.inr ⟨er, KE.out, KE2.out⟩, KB.out, KM.out⟩
                · go_wp2
                  refine bodyPost_end (results_none rfl _ _ _) rfl ?_
                  exact ⟨ob', o, t3, E', rfl, Or.inr ⟨er, KE.out, KE2.out⟩, KB.out, KM.out⟩
        · obtain ⟨er, her1, her2⟩ := preD_off KX5.out hE3
          have KE := Kept.mk her1
          have KE2 := Kept.mk her2
          clear her1 her2
          go_wp2
          rename World => wq
          go_loopw [10] (fun s10 wr => s10 = .int .i64 0 ∧ wr = wq) (fun _ _ => 0)
          case atStart => exact ⟨rfl, rfl⟩
          case round =>
            obtain ⟨rfl, rfl⟩ := hrel
            go_wp2
            refine bodyPost_end (results_none rfl _ _ _) rfl ?_
            exact ⟨ob, out, t3, E3, rfl, Or.inr ⟨er, KE.out, KE2.out⟩, KB3.out, (KFw.out.trans KF3.out).mv⟩
    · obtain ⟨er, her1, her2⟩ := preD_off KX3.out hE2
      have KE := Kept.mk her1
      have KE2 := Kept.mk her2
      clear her1 her2
      go_wp2
      refine bodyPost_ret (results_none rfl _ _ _) rfl ?_
      exact ⟨ob, out, t2, E2, rfl, Or.inr ⟨er, KE.out, KE2.out⟩, KB2.out, (KFw.out.trans KF2.out).mv⟩
end Go.Proofs.YtjijkcmbbccfmaaDoor
