/-
  Walks: Apply at hunks that are in form.
-/
import Derived.Test.YtjhcpmhjdhmjpaaVI
namespace Go.Proofs.Ytjhcpmhjdhmjpaa
open Go.RowKit

/-- What Apply makes, from a line of the first list on. -/
def apP (a b : List ByteArray) : Nat → List (Pt × Pt) → List ByteArray
  | nx, [] => a.drop nx
  | nx, h :: r => (a.drop nx).take (h.1.1 - nx) ++ ((b.drop h.1.2).take (h.2.2 - h.1.2) ++ apP a b h.2.1 r)
theorem rd_sub {W : World} {pa : Option Addr} {pc : Nat} {L : List ByteArray} (h : RdS W (.slice pa L.length pc) L) {lo hi : Nat} (h1 : lo ≤ hi) (h2 : hi ≤ L.length) :
    (pc - lo = 0 → RdS W (.slice pa (hi - lo) 0) ((L.drop lo).take (hi - lo))) ∧ (¬ pc - lo = 0 → RdS W (.slice (Option.map (fun x => x.add lo) pa) (hi - lo) (pc - lo)) ((L.drop lo).take (hi - lo))) := by
  obtain ⟨p', c', he, hle, hr⟩ := h
  rw [List.length_map] at he hle hr
  injection he with e1 e2 e3
  subst e1 e3
  have hlen : (((L.drop lo).take (hi - lo)).map Value.string).length = hi - lo := by rw [List.length_map, List.length_take, List.length_drop]; omega
  refine ⟨fun hz => ⟨pa, 0, by rw [hlen], by rw [hlen]; omega, fun h0 => ?_⟩, fun hz => ⟨_, pc - lo, by rw [hlen], by rw [hlen]; omega, fun h0 => ?_⟩⟩
  · rw [hlen] at h0; omega
  · rw [hlen] at h0
    obtain ⟨b, off, rfl, hlt, hrow⟩ := hr (by omega)
    refine ⟨b, off + lo, by rw [Option.map_some, add_plain], hlt, fun j u hu => ?_⟩
    rw [Nat.add_assoc]
    refine hrow (lo + j) u ?_
    rw [List.getElem?_map] at hu ⊢
    rw [List.getElem?_take] at hu
    split at hu
    · rw [List.getElem?_drop] at hu
      exact hu
    · cases hu
set_option maxHeartbeats 2000000 in
set_option maxRecDepth 100000 in
theorem apply_any (v u hv : Value) (a b : List ByteArray) (hs : List (Pt × Pt)) (w : World) (hn : a.length ≤ 60) (hm : b.length ≤ 60) (ha : ∀ W, Below w.heap.size w W → RdS W v a) (hb : ∀ W, Below w.heap.size w W → RdS W u b) (hr : ∀ W, Below w.heap.size w W → RdHk W hv hs) (hl : hs.length ≤ 200) (hf : inF a.length b.length (0, 0) true hs) (has : ∀ s ∈ a, s.size ≤ 281474976710656) (hbs : ∀ s ∈ b, s.size ≤ 281474976710656) :
    Calls Try.prog 24 #[v, u, hv] w fun e w' => ∃ v', e = .returned (.tuple #[v', .int .i64 0]) ∧ OwnT w' w.heap.size v' (apP a b 0 hs) ∧ Below w.heap.size w w' := by
  obtain ⟨pa, pc, rfl⟩ := (ha w (Below.refl _ _)).form
  obtain ⟨qa, qc, rfl⟩ := (hb w (Below.refl _ _)).form
  have K3 := Kept.mk (inForm_any hv a.length b.length hs w hn hm hr (by omega) hf)
  obtain ⟨ra, rc, rfl, -⟩ := hr w (Below.refl _ _)
  have K1 := Kept.mk (tooLong_any pa qa a.length b.length pc qc w)
  have K2 := Kept.mk (endOf_any pa qa a.length b.length pc qc w)
  have KA := Kept.mk ha
  have KB := Kept.mk hb
  have KR := Kept.mk hr
  have K0 := Kept.mk hf
  have Kas := Kept.mk has
  have Kbs := Kept.mk hbs
  have hlb : longB a.length b.length = false := by unfold longB; rw [decide_eq_false (by omega), decide_eq_false (by omega)]; rfl
  clear ha hb hr hf has hbs
  go_enter Try.func24, Try.ntmps24
  go_wp2_with fail
  refine Calls.mono K1.out (fun e w1 hp => ?_)
  obtain ⟨rfl, hw⟩ := hp
  subst w1
  clear K1
  rw [hlb]
  go_wp2_with fail
  refine Calls.mono K2.out (fun e w1 hp => ?_)
  obtain ⟨rfl, hw⟩ := hp
  subst w1
  clear K2
  go_wp2_with fail
  refine Calls.mono K3.out (fun e w1 hp => ?_)
  obtain ⟨rfl, hB1⟩ := hp
  have KB1 := Kept.mk hB1
  clear K3 hB1
  go_upto_region 8 with fail
  go_loopw [8, 9, 29] (fun mv xv iv wr => ∃ (k nx ny : Nat) (M : List ByteArray), k ≤ hs.length ∧ iv = .int .i64 k ∧ xv = .int .i64 nx ∧ OwnT wr w.heap.size mv M ∧ M ++ apP a b nx (hs.drop k) = apP a b 0 hs ∧ M.length ≤ 200 * k ∧ inF a.length b.length (nx, ny) (decide (k = 0)) (hs.drop k) ∧ Below w.heap.size w wr) (fun _ _ iv _ => hs.length - (intOf iv).toNat)
  case atStart => exact ⟨0, 0, 0, [], Nat.zero_le _, rfl, rfl, World.ownsRow_nil w1 w.heap.size 9 1, rfl, Nat.zero_le _, K0.out, KB1.out⟩
  case round =>
    obtain ⟨k, nx, ny, M, hk, rfl, rfl, hO, hM, hMl, hF, hbr⟩ := hrel
    have KBr := Kept.mk hbr
    have KO := Kept.mk hO
    have KM := Kept.mk hM
    obtain ⟨ma, mc, hfm⟩ := hO.form
    rw [hfm]
    rw [hfm] at KO
    clear K0 hO hfm hM
    by_cases hlt : k < hs.length
    · have hki : (k : Int) < (hs.length : Int) := by omega
      have n0 : (0 : Int) ≤ (k : Int) := by omega
      have e1 : IntKind.i64.wrap ((k : Int) + 1) = (k : Int) + 1 := wr64 (by omega) (by omega)
      obtain ⟨h, hh⟩ : ∃ h, hs[k]? = some h := ⟨_, List.getElem?_eq_getElem hlt⟩
      obtain ⟨p', c', he, hr⟩ := KR.out wr hbr
      obtain ⟨b0, o, hp1, hrow⟩ := hr (by omega)
      have hpa : ra = some ⟨b0, o, none⟩ := by injection he with h1 h2 h3; rw [h1, hp1]
      subst hpa
      have hdr : hs.drop k = h :: hs.drop (k + 1) := by
        obtain ⟨hl', hg⟩ := List.getElem?_eq_some_iff.1 hh
        rw [← hg]
        exact List.drop_eq_getElem_cons hl'
      rw [hdr] at hF KM
      obtain ⟨f1, f2, f3, f4, f5, f6, f7, f8, f9, f10⟩ := hF
      obtain ⟨⟨fx, fy⟩, ⟨tx, ty⟩⟩ := h
      simp only at f1 f2 f3 f4 f5 f6 f8 f9 f10
      obtain ⟨g1, g2⟩ := hkV_get hh
      have r1 := hrow _ _ g1
      have r2 := hrow _ _ g2
      unfold pt at r1 r2
      have hR : wr.rangeAt b0 (o + k * 2) [.complex .f64 (fl fx) (fl fy), .complex .f64 (fl tx) (fl ty)] := by
        intro j u hu
        match j, hu with
        | 0, hu => simp at hu; subst hu; exact r1
        | 1, hu => simp at hu; subst hu; rw [Nat.add_assoc]; exact r2
      have KRow := Kept.mk hR
      have Kf : Kept (inF a.length b.length (tx, ty) (decide (k + 1 = 0)) (hs.drop (k + 1))) := ⟨by rw [decide_eq_false (by omega)]; exact f10⟩
      clear r1 r2 hR he hr hp1 hrow hdr g1 g2 hh f10
      have KI : Kept ((Try.prog.info? 47).map (·.size) = some 2) := ⟨by kernel_rfl⟩
      have hB0 := Bk.new wr 47 [.complex .f64 0 0, .complex .f64 0 0]
      have hB1 := hB0.set 0 (.complex .f64 (fl fx) (fl fy))
      have hB2 := hB1.set 1 (.complex .f64 (fl tx) (fl ty))
      have hst1 := run_store_c _ _ (fl fx) (fl fy) _ (hB0.cell 0 _ rfl) (hB0.frozen 0)
      have hst2 := run_store_c _ _ (fl tx) (fl ty) _ (hB1.cell 1 _ rfl) (hB1.frozen 1)
      have hb1 : Below w.heap.size w ((((wr.alloc (.cells #[.complex .f64 0 0, .complex .f64 0 0] 47)).setCell ⟨wr.heap.size, 0, none⟩ (.complex .f64 (fl fx) (fl fy))).setCell ⟨wr.heap.size, 1, none⟩ (.complex .f64 (fl tx) (fl ty)))) := ((hbr.alloc hbr.size _).setCell hbr.size _).setCell hbr.size _
      have hb2 : Below wr.heap.size wr ((((wr.alloc (.cells #[.complex .f64 0 0, .complex .f64 0 0] 47)).setCell ⟨wr.heap.size, 0, none⟩ (.complex .f64 (fl fx) (fl fy))).setCell ⟨wr.heap.size, 1, none⟩ (.complex .f64 (fl tx) (fl ty)))) := (((Below.refl _ wr).alloc (Nat.le_refl _) _).setCell (Nat.le_refl _) _).setCell (Nat.le_refl _) _
      have c0 := hB2.cell 0 (.complex .f64 (fl fx) (fl fy)) rfl
      have c1 := hB2.cell 1 (.complex .f64 (fl tx) (fl ty)) rfl
      have ef : ([Value.complex .f64 0 0, .complex .f64 0 0] : List Value).toArray = #[.complex .f64 0 0, .complex .f64 0 0] := rfl
      rw [ef] at hst1 hst2 c0 c1
      obtain ⟨w2, hw2⟩ : ∃ x, ((((wr.alloc (.cells #[.complex .f64 0 0, .complex .f64 0 0] 47)).setCell ⟨wr.heap.size, 0, none⟩ (.complex .f64 (fl fx) (fl fy))).setCell ⟨wr.heap.size, 1, none⟩ (.complex .f64 (fl tx) (fl ty)))) = x := ⟨_, rfl⟩
      rw [hw2] at hst2 c0 c1 hb1 hb2
      obtain ⟨w0, hw0⟩ : ∃ x, ((wr.alloc (.cells #[.complex .f64 0 0, .complex .f64 0 0] 47)).setCell ⟨wr.heap.size, 0, none⟩ (.complex .f64 (fl fx) (fl fy))) = x := ⟨_, rfl⟩
      rw [hw0] at hst1 hst2
      have KB2 := Kept.mk hb1
      have KO2 := Kept.mk (KO.out.later hb2 (Nat.le_refl _))
      have K1 := Kept.mk (parts_any fx fy (by omega) (by omega) w2)
      have K2 := Kept.mk (parts_any tx ty (by omega) (by omega) w2)
      unfold pt at K1 K2
      have hca : a.length ≤ pc := by
        obtain ⟨p', c', he, hle, -⟩ := KA.out wr hbr
        rw [List.length_map] at he hle
        injection he with h1 h2 h3
        omega
      have hcb : b.length ≤ qc := by
        obtain ⟨p', c', he, hle, -⟩ := KB.out wr hbr
        rw [List.length_map] at he hle
        injection he with h1 h2 h3
        omega
      clear hB0 hB1 hB2 hb1 hb2 ef hw2 hw0 KR hbr
      generalize fl fx = FX at *
      generalize fl fy = FY at *
      generalize fl tx = TX at *
      generalize fl ty = TY at *
      have i1 : (nx : Int) ≤ (fx : Int) := by omega
      have i2 : (fx : Int) ≤ (pc : Int) := by omega
      have i3 : (fy : Int) ≤ (ty : Int) := by omega
      have i4 : (ty : Int) ≤ (qc : Int) := by omega
      go_wp2_with (refine wpList_load_mid rfl 47 _ rfl b0 (o + k * 2) rfl [.complex .f64 FX FY, .complex .f64 TX TY] _ KRow.out Try.underlying47 rfl KI.out ?_)
      refine Calls.mono K1.out (fun e w3 hp => ?_)
      obtain ⟨rfl, hw⟩ := hp
      subst w3
      clear K1
      go_wp2_with fail
      refine Calls.mono K2.out (fun e w3 hp => ?_)
      obtain ⟨rfl, hw⟩ := hp
      subst w3
      clear K2
      have Kl1 : Kept (((a.drop nx).take (fx - nx)).length ≤ 60 ∧ ((b.drop fy).take (ty - fy)).length ≤ 60) := ⟨by constructor <;> rw [List.length_take, List.length_drop] <;> omega⟩
      have Kap : Kept ((M ++ (a.drop nx).take (fx - nx)) ++ (b.drop fy).take (ty - fy) ++ apP a b tx (hs.drop (k + 1)) = apP a b 0 hs) := ⟨by rw [← KM.out, apP]; simp only [List.append_assoc]⟩
      have Kin : Kept (nx ≤ fx ∧ fx ≤ a.length ∧ fy ≤ ty ∧ ty ≤ b.length ∧ M.length ≤ 40000) := ⟨⟨by omega, by omega, by omega, by omega, by omega⟩⟩
      have KsA : Kept (∀ s ∈ (a.drop nx).take (fx - nx), s.size ≤ 281474976710656) := ⟨fun s hs => Kas.out s (List.mem_of_mem_drop (List.mem_of_mem_take hs))⟩
      have KsB : Kept (∀ s ∈ (b.drop fy).take (ty - fy), s.size ≤ 281474976710656) := ⟨fun s hs => Kbs.out s (List.mem_of_mem_drop (List.mem_of_mem_take hs))⟩
      clear f3 KM f4 f7
      by_cases hz : pc - nx = 0
      · have K3 := Kept.mk (appendOwn_any (.slice ma M.length mc) (.slice pa (fx - nx) 0) M ((a.drop nx).take (fx - nx)) w.heap.size w2 KO2.out KB2.out.size ((rd_sub (KA.out w2 KB2.out) Kin.out.1 Kin.out.2.1).1 hz) (fun W hW => (rd_sub (KA.out W (KB2.out.trans hW)) Kin.out.1 Kin.out.2.1).1 hz) KsA.out (by have := Kin.out; omega) (by have := Kl1.out; omega))
        go_wp2_with fail
        refine Calls.mono K3.out (fun e w3 hp => ?_)
        obtain ⟨v3, rfl, ho3, hb3⟩ := hp
        have KB3 := Kept.mk (KB2.out.trans hb3)
        have KO3 := Kept.mk ho3
        clear K3 ho3 hb3 hst1 hst2 c0 c1 hz
        by_cases hz : qc - fy = 0
        · have K4 := Kept.mk (appendOwn_any v3 (.slice qa (ty - fy) 0) (M ++ (a.drop nx).take (fx - nx)) ((b.drop fy).take (ty - fy)) w.heap.size w3 KO3.out KB3.out.size ((rd_sub (KB.out w3 KB3.out) Kin.out.2.2.1 Kin.out.2.2.2.1).1 hz) (fun W hW => (rd_sub (KB.out W (KB3.out.trans hW)) Kin.out.2.2.1 Kin.out.2.2.2.1).1 hz) KsB.out (by have := Kl1.out; have := Kin.out; rw [List.length_append]; omega) (by have := Kl1.out; omega))
          go_wp2_with fail
          refine Calls.mono K4.out (fun e w4 hp => ?_)
          obtain ⟨v4, rfl, ho4, hb4⟩ := hp
          have KB4 := Kept.mk (KB3.out.trans hb4)
          have KO4 := Kept.mk ho4
          clear K4 ho4 hb4 hz
          go_wp2
          go_roundw
          case rel => exact ⟨k + 1, tx, ty, _, hlt, by go_num, rfl, KO4.out, Kap.out, by have := Kl1.out; rw [List.length_append, List.length_append]; omega, Kf.out, KB4.out⟩
          case measure => simp [intOf]; omega
        · have K4 := Kept.mk (appendOwn_any v3 (.slice (Option.map (fun x => x.add fy) qa) (ty - fy) (qc - fy)) (M ++ (a.drop nx).take (fx - nx)) ((b.drop fy).take (ty - fy)) w.heap.size w3 KO3.out KB3.out.size ((rd_sub (KB.out w3 KB3.out) Kin.out.2.2.1 Kin.out.2.2.2.1).2 hz) (fun W hW => (rd_sub (KB.out W (KB3.out.trans hW)) Kin.out.2.2.1 Kin.out.2.2.2.1).2 hz) KsB.out (by have := Kl1.out; have := Kin.out; rw [List.length_append]; omega) (by have := Kl1.out; omega))
          go_wp2_with fail
          refine Calls.mono K4.out (fun e w4 hp => ?_)
          obtain ⟨v4, rfl, ho4, hb4⟩ := hp
          have KB4 := Kept.mk (KB3.out.trans hb4)
          have KO4 := Kept.mk ho4
          clear K4 ho4 hb4 hz
          go_wp2
          go_roundw
          case rel => exact ⟨k + 1, tx, ty, _, hlt, by go_num, rfl, KO4.out, Kap.out, by have := Kl1.out; rw [List.length_append, List.length_append]; omega, Kf.out, KB4.out⟩
          case measure => simp [intOf]; omega
      · have K3 := Kept.mk (appendOwn_any (.slice ma M.length mc) (.slice (Option.map (fun x => x.add nx) pa) (fx - nx) (pc - nx)) M ((a.drop nx).take (fx - nx)) w.heap.size w2 KO2.out KB2.out.size ((rd_sub (KA.out w2 KB2.out) Kin.out.1 Kin.out.2.1).2 hz) (fun W hW => (rd_sub (KA.out W (KB2.out.trans hW)) Kin.out.1 Kin.out.2.1).2 hz) KsA.out (by have := Kin.out; omega) (by have := Kl1.out; omega))
        go_wp2_with fail
        refine Calls.mono K3.out (fun e w3 hp => ?_)
        obtain ⟨v3, rfl, ho3, hb3⟩ := hp
        have KB3 := Kept.mk (KB2.out.trans hb3)
        have KO3 := Kept.mk ho3
        clear K3 ho3 hb3 hst1 hst2 c0 c1 hz
        by_cases hz : qc - fy = 0
        · have K4 := Kept.mk (appendOwn_any v3 (.slice qa (ty - fy) 0) (M ++ (a.drop nx).take (fx - nx)) ((b.drop fy).take (ty - fy)) w.heap.size w3 KO3.out KB3.out.size ((rd_sub (KB.out w3 KB3.out) Kin.out.2.2.1 Kin.out.2.2.2.1).1 hz) (fun W hW => (rd_sub (KB.out W (KB3.out.trans hW)) Kin.out.2.2.1 Kin.out.2.2.2.1).1 hz) KsB.out (by have := Kl1.out; have := Kin.out; rw [List.length_append]; omega) (by have := Kl1.out; omega))
          go_wp2_with fail
          refine Calls.mono K4.out (fun e w4 hp => ?_)
          obtain ⟨v4, rfl, ho4, hb4⟩ := hp
          have KB4 := Kept.mk (KB3.out.trans hb4)
          have KO4 := Kept.mk ho4
          clear K4 ho4 hb4 hz
          go_wp2
          go_roundw
          case rel => exact ⟨k + 1, tx, ty, _, hlt, by go_num, rfl, KO4.out, Kap.out, by have := Kl1.out; rw [List.length_append, List.length_append]; omega, Kf.out, KB4.out⟩
          case measure => simp [intOf]; omega
        · have K4 := Kept.mk (appendOwn_any v3 (.slice (Option.map (fun x => x.add fy) qa) (ty - fy) (qc - fy)) (M ++ (a.drop nx).take (fx - nx)) ((b.drop fy).take (ty - fy)) w.heap.size w3 KO3.out KB3.out.size ((rd_sub (KB.out w3 KB3.out) Kin.out.2.2.1 Kin.out.2.2.2.1).2 hz) (fun W hW => (rd_sub (KB.out W (KB3.out.trans hW)) Kin.out.2.2.1 Kin.out.2.2.2.1).2 hz) KsB.out (by have := Kl1.out; have := Kin.out; rw [List.length_append]; omega) (by have := Kl1.out; omega))
          go_wp2_with fail
          refine Calls.mono K4.out (fun e w4 hp => ?_)
          obtain ⟨v4, rfl, ho4, hb4⟩ := hp
          have KB4 := Kept.mk (KB3.out.trans hb4)
          have KO4 := Kept.mk ho4
          clear K4 ho4 hb4 hz
          go_wp2
          go_roundw
          case rel => exact ⟨k + 1, tx, ty, _, hlt, by go_num, rfl, KO4.out, Kap.out, by have := Kl1.out; rw [List.length_append, List.length_append]; omega, Kf.out, KB4.out⟩
          case measure => simp [intOf]; omega
    · have hki : ¬ (k : Int) < (hs.length : Int) := by omega
      have hd : hs.drop k = [] := List.drop_eq_nil_of_le (by omega)
      rw [hd] at hF KM
      obtain ⟨f1, f2, f3⟩ := hF
      simp only at f1
      have hca : a.length ≤ pc := by
        obtain ⟨p', c', he, hle, -⟩ := KA.out wr hbr
        rw [List.length_map] at he hle
        injection he with h1 h2 h3
        omega
      have i1 : (nx : Int) ≤ (a.length : Int) := by omega
      have i2 : (a.length : Int) ≤ (pc : Int) := by omega
      have ed : (a.drop nx).take (a.length - nx) = a.drop nx := List.take_of_length_le (by rw [List.length_drop]; omega)
      have Kin : Kept (nx ≤ a.length ∧ M.length ≤ 40000) := ⟨⟨f1, by omega⟩⟩
      have Kl1 : Kept ((a.drop nx).length ≤ 60) := ⟨by rw [List.length_drop]; omega⟩
      have KsA : Kept (∀ s ∈ a.drop nx, s.size ≤ 281474976710656) := ⟨fun s hs => Kas.out s (List.mem_of_mem_drop hs)⟩
      have Kap : Kept (M ++ a.drop nx = apP a b 0 hs) := ⟨by rw [← KM.out, apP]⟩
      have Ked := Kept.mk ed
      clear hd f2 f3 KM ed KR KB hbr
      by_cases hz : pc - nx = 0
      · have K3 := Kept.mk (appendOwn_any (.slice ma M.length mc) (.slice pa (a.length - nx) 0) M (a.drop nx) w.heap.size wr KO.out KBr.out.size (by have h := (rd_sub (KA.out wr KBr.out) Kin.out.1 (Nat.le_refl _)).1 hz; rw [Ked.out] at h; exact h) (fun W hW => by have h := (rd_sub (KA.out W (KBr.out.trans hW)) Kin.out.1 (Nat.le_refl _)).1 hz; rw [Ked.out] at h; exact h) KsA.out (by have := Kin.out; omega) (by have := Kl1.out; omega))
        go_wp2_with fail
        refine Calls.mono K3.out (fun e w3 hp => ?_)
        obtain ⟨v3, rfl, ho3, hb3⟩ := hp
        have KB3 := Kept.mk (KBr.out.trans hb3)
        have KO3 := Kept.mk ho3
        clear K3 ho3 hb3 hz
        go_wp2
        go_ret2
        exact ⟨_, rfl, by rw [← Kap.out]; exact KO3.out, KB3.out⟩
      · have K3 := Kept.mk (appendOwn_any (.slice ma M.length mc) (.slice (Option.map (fun x => x.add nx) pa) (a.length - nx) (pc - nx)) M (a.drop nx) w.heap.size wr KO.out KBr.out.size (by have h := (rd_sub (KA.out wr KBr.out) Kin.out.1 (Nat.le_refl _)).2 hz; rw [Ked.out] at h; exact h) (fun W hW => by have h := (rd_sub (KA.out W (KBr.out.trans hW)) Kin.out.1 (Nat.le_refl _)).2 hz; rw [Ked.out] at h; exact h) KsA.out (by have := Kin.out; omega) (by have := Kl1.out; omega))
        go_wp2_with fail
        refine Calls.mono K3.out (fun e w3 hp => ?_)
        obtain ⟨v3, rfl, ho3, hb3⟩ := hp
        have KB3 := Kept.mk (KBr.out.trans hb3)
        have KO3 := Kept.mk ho3
        clear K3 ho3 hb3 hz
        go_wp2
        go_ret2
        exact ⟨_, rfl, by rw [← Kap.out]; exact KO3.out, KB3.out⟩
end Go.Proofs.Ytjhcpmhjdhmjpaa
