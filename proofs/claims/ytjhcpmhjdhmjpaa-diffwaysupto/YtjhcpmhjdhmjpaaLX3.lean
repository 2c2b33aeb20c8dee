/-
  Walks: bytes.Lines and its function.
-/
import Derived.Test.YtjhcpmhjdhmjpaaLX2
import Derived.Test.YtjhcpmhjdhmjpaaQ
import Derived.Test.YtjhcpmhjdhmjpaaShelf
namespace Go.Proofs.Ytjhcpmhjdhmjpaa
open Go.RowKit Go.Shelf
attribute [local go_sem] Oper.semAt_some

/-- What lies in the box, behind off bytes. -/
structure LnB (wr : World) (Bs tb to n c off : Nat) : Prop where
  le : off ≤ n
  mid : off < n → Boxed wr Bs 42 (.slice (some ⟨tb, to + off, none⟩) (n - off) (c - off))
  last : off = n → ∃ p q, Boxed wr Bs 42 (.slice p 0 q)
def boxN (Bs : Nat) (w : World) : Nat := match w.cell? ⟨Bs, 0, none⟩ with
  | some (.slice _ n _) => n
  | _ => 0
theorem boxN_eq {Bs : Nat} {w : World} {T : TypeId} {p : Option Addr} {n c : Nat} (h : Boxed w Bs T (.slice p n c)) : boxN Bs w = n := by unfold boxN; rw [h.cell]
theorem fx_set (W : World) (g : Nat) (u : Value) : Fx (fun k => k = g) W (W.setCell ⟨g, 0, none⟩ u) := Fx.setCell W g 0 u
set_option maxRecDepth 100000 in
set_option maxHeartbeats 2000000 in
theorem bytesLines_any (p : Option Addr) (n c : Nat) (w : World) : CallsIn Fence.wide 3 Try.prog 39 #[.slice p n c] w fun e w' => e = .returned (.func (.func 48) #[] #[.pointer (some ⟨w.heap.size, 0, none⟩)]) ∧ w' = w.alloc (.cells #[.slice p n c] 42) := by
  refine callsIn_of_wp Try.func39 rfl trivial ?_ rfl
  simp only [Try.ntmps39, List.size_toArray, List.length_cons, List.length_nil, Nat.reduceAdd, Nat.reduceSub, Array.replicate_succ, Array.replicate_zero, List.push_toArray, List.append_toArray, List.nil_append, List.cons_append]
  gi_wp2
  go_ret
  exact ⟨rfl, rfl⟩
theorem fx_dset (W : World) (m g : Nat) (u : Value) : Fx (fun k => k = g) W ((W.drewN m).setCell ⟨g, 0, none⟩ u) :=
  ⟨rfl, rfl, rfl, by simp [World.setCell], fun k _ hk => by rw [Below.heap_setCell _ _ _ _ hk]; rfl⟩
theorem boxed_drew {W : World} {m B : Nat} {T : TypeId} {v : Value} (h : Boxed W B T v) : Boxed (W.drewN m) B T v := h
set_option maxRecDepth 100000 in
set_option maxHeartbeats 4000000 in
theorem lines1_any (l Bs tb to c n0 : Nat) (xs : List Int) (hxs : AllB xs) (hc : xs.length ≤ c) (hcm : c ≤ maxLen) (htb : 0 < xs.length → tb < n0) (hBs : n0 ≤ Bs) (J : Nat → World → Prop) (W : World)
    (hJ : ∀ k W1 W2, J k W1 → Fx (fun b => b = Bs) W1 W2 → J k W2)
    (hY : ∀ k W1, k < xs.length → J k W1 → YieldAt Fence.wide 2 Try.prog l #[.slice (some ⟨tb, to + k, none⟩) (lnE (xs.drop k)) (lnE (xs.drop k))] W1 fun e W' => e = .returned (.bool true) ∧ J (k + lnE (xs.drop k)) W' ∧ W'.heap[Bs]? = W1.heap[Bs]? ∧ Below n0 W1 W')
    (hbx : LnB W Bs tb to xs.length c 0) (hcell : ∀ i, i < xs.length → W.cell? ⟨tb, to + i, none⟩ = some (.int .u8 (xs.getD i 0))) (h0 : J 0 W) :
    CallsIn Fence.wide 3 Try.prog 48 #[.func (.yield l) #[] #[], .pointer (some ⟨Bs, 0, none⟩)] W fun e W' => (∃ v, e = .returned v) ∧ J xs.length W' := by
  have KJ := Kept.mk hJ
  have KY := Kept.mk hY
  have KC := Kept.mk hcell
  have KX := Kept.mk hxs
  have K0 := Kept.mk hbx
  have Kh := Kept.mk h0
  clear hJ hY hcell hxs hbx h0
  refine callsIn_of_wp Try.func48 rfl trivial ?_ rfl
  simp only [Try.ntmps48, List.size_toArray, List.length_cons, List.length_nil, Nat.reduceAdd, Nat.reduceSub, Array.replicate_succ, Array.replicate_zero, List.push_toArray, List.append_toArray, List.nil_append, List.cons_append]
  gi_wp2
  gi_loopw [] (fun wr => ∃ off : Nat, LnB wr Bs tb to xs.length c off ∧ J off wr ∧ Below n0 W wr) (fun wr => boxN Bs wr)
  case atStart => exact ⟨0, K0.out, Kh.out, Below.refl _ _⟩
  case round =>
    obtain ⟨off, hb, hj, hbel⟩ := hrel
    have hle := hb.le
    by_cases hlt : off < xs.length
    · have htb := htb (by omega)
      have hbx := hb.mid hlt
      have hcl := hbx.cell
      have hfz := hbx.frozen
      have hpos : (0 : Int) < ((xs.length - off : Nat) : Int) := by omega
      have hlen : (xs.drop off).length = xs.length - off := by simp
      have hcs : ∀ i, i < xs.length - off → wr.cell? ⟨tb, to + off + i, none⟩ = some (.int .u8 ((xs.drop off).getD i 0)) := fun i hi => by
        rw [hbel.cell (p := ⟨tb, to + off + i, none⟩) htb, Nat.add_assoc, KC.out (off + i) (by omega)]
        congr 2
        simp [List.getD, List.getElem?_drop]
      have hall : AllB (xs.drop off) := KX.out.drop off
      have hidx := idx_ln hall
      have K1 := Kept.mk (Try.bytes_IndexByte tb (to + off) (xs.length - off) (c - off) (xs.drop off) 10 wr hlen hcs)
      have hep : 0 < lnE (xs.drop off) := lnE_pos (fun e => by rw [e] at hlen; simp at hlen; omega)
      have hel : lnE (xs.drop off) ≤ xs.length - off := by have := lnE_le (xs.drop off); omega
      have hnone : (10 : Int) ∉ xs.drop off → lnE (xs.drop off) = xs.length - off := fun h => by rw [lnE_none h, hlen]
      obtain ⟨e, he⟩ : ∃ e, lnE (xs.drop off) = e := ⟨_, rfl⟩
      rw [he] at hidx hep hel hnone
      rw [hidx] at K1
      have KYk : Kept (∀ W1, J off W1 → YieldAt Fence.wide 2 Try.prog l #[.slice (some ⟨tb, to + off, none⟩) e e] W1 fun e' W' => e' = .returned (.bool true) ∧ J (off + e) W' ∧ W'.heap[Bs]? = W1.heap[Bs]? ∧ Below n0 W1 W') := ⟨fun W1 h => by have := KY.out off W1 hlt h; rw [he] at this; exact this⟩
      have Kb := Kept.mk hb
      have Kj := Kept.mk hj
      have Kbel := Kept.mk hbel
      have Kbx := Kept.mk hbx
      clear hb hj hbel hbx hcs hall hidx he hlen
      by_cases h10 : (10 : Int) ∈ xs.drop off
      · rw [if_pos h10] at K1
        clear hnone h10
        have d1 : (0 : Int) ≤ (e : Int) - 1 := by omega
        gi_wp2_with (refine ⟨trivial, ?_⟩; gi_at_call 49; refine (callsIn_wide.2 K1.out).mono ?_; rintro e2 w2 ⟨rfl, rfl⟩)
        refine wpIn_wide.2 ?_
        refine wp_region_last _ 9 (by kernel_rfl) (by kernel_rfl) rfl rfl ?_
        simp only [List.take_succ_cons, List.take_zero]
        have d2 : IntKind.i64.wrap ((e : Int) - 1 + 1) = (e : Int) := by rw [show (e : Int) - 1 + 1 = (e : Int) by omega]; rw [IntKind.wrap_i64]; unfold maxLen at hcm; omega
        have d3 : (0 : Int) ≤ (e : Int) := by omega
        have d4 : (e : Int) ≤ ((c - off : Nat) : Int) := by omega
        have d5 : (e : Int) ≤ ((xs.length - off : Nat) : Int) := by omega
        have d6 : wrap64 (e : Int) = (e : Int) := by unfold maxLen at hcm; unfold wrap64; omega
        have Kar : Kept (off < xs.length ∧ e ≤ xs.length - off ∧ 0 < e ∧ xs.length ≤ c ∧ tb < n0 ∧ n0 ≤ Bs) := ⟨⟨hlt, hel, hep, hc, htb, hBs⟩⟩
        obtain ⟨n1, hn1⟩ : ∃ n1, xs.length - off = n1 := ⟨_, rfl⟩
        obtain ⟨c1, hc1⟩ : ∃ c1, c - off = c1 := ⟨_, rfl⟩
        have Kn1 := Kept.mk hn1
        have Kc1 := Kept.mk hc1
        rw [hc1] at d4
        rw [hn1] at d5
        rw [hn1, hc1] at hcl
        rw [hn1, hc1]
        clear d1 hle hlt hpos hep hel hc hcm htb hBs hn1 hc1
        by_cases hcap : c1 = e
        · subst hcap
          repeat (go_big_quiet_step (fail))
          refine wpQuiet_nil ?_
          intro m
          go_simp
          obtain ⟨fn, tmps, assign, body, hy, hR⟩ := KYk.out ((w2.drewN m).setCell ⟨Bs, 0, none⟩ (.slice (some ⟨tb, to + off, none⟩) (n1 - c1) 0)) (KJ.out off w2 _ Kj.out (fx_dset _ _ _ _))
          have Kbx2 := Kept.mk ((boxed_drew (m := m) Kbx.out).set (.slice (some ⟨tb, to + off, none⟩) (n1 - c1) 0))
          gi_wp2
          refine hR.mono ?_
          rintro e3 W3 ⟨rfl, hJ3, hB3, hb3⟩
          have Kx3 : Kept (Boxed W3 Bs 42 (.slice (some ⟨tb, to + off, none⟩) (n1 - c1) 0)) := ⟨hB3.trans Kbx2.out⟩
          have KJ3 := Kept.mk hJ3
          have Kb3 := Kept.mk ((Kbel.out.trans ((fx_dset w2 m Bs (.slice (some ⟨tb, to + off, none⟩) (n1 - c1) 0)).below (by have := Kbx.out.lt; have := Kar.out; omega) (by have := Kar.out; omega))).trans hb3)
          clear hB3 hb3 hJ3 hy hR
          gi_wp2
          go_roundw
          case rel =>
            obtain ⟨z1, z2, z3, z4, z5, z6⟩ := Kar.out
            have z7 := Kn1.out
            have z8 := Kc1.out
            exact ⟨off + c1, ⟨by omega, fun h => by omega, fun _ => ⟨_, _, by have h := Kx3.out; rw [show n1 - c1 = 0 by omega] at h; exact h⟩⟩, KJ3.out, Kb3.out⟩
          case measure =>
            obtain ⟨z1, z2, z3, z4, z5, z6⟩ := Kar.out
            rw [boxN_eq Kx3.out, boxN_eq Kbx.out]
            have z7 := Kn1.out
            omega
        · repeat (go_big_quiet_step (fail))
          refine wpQuiet_nil ?_
          intro m
          go_simp
          obtain ⟨fn, tmps, assign, body, hy, hR⟩ := KYk.out ((w2.drewN m).setCell ⟨Bs, 0, none⟩ (.slice (some ⟨tb, to + off + e, none⟩) (n1 - e) (c1 - e))) (KJ.out off w2 _ Kj.out (fx_dset _ _ _ _))
          have Kbx2 := Kept.mk ((boxed_drew (m := m) Kbx.out).set (.slice (some ⟨tb, to + off + e, none⟩) (n1 - e) (c1 - e)))
          gi_wp2
          refine hR.mono ?_
          rintro e3 W3 ⟨rfl, hJ3, hB3, hb3⟩
          have Kx3 : Kept (Boxed W3 Bs 42 (.slice (some ⟨tb, to + off + e, none⟩) (n1 - e) (c1 - e))) := ⟨hB3.trans Kbx2.out⟩
          have KJ3 := Kept.mk hJ3
          have Kb3 := Kept.mk ((Kbel.out.trans ((fx_dset w2 m Bs (.slice (some ⟨tb, to + off + e, none⟩) (n1 - e) (c1 - e))).below (by have := Kbx.out.lt; have := Kar.out; omega) (by have := Kar.out; omega))).trans hb3)
          clear hB3 hb3 hJ3 hy hR
          gi_wp2
          go_roundw
          case rel =>
            obtain ⟨z1, z2, z3, z4, z5, z6⟩ := Kar.out
            have z7 := Kn1.out
            have z8 := Kc1.out
            exact ⟨off + e, ⟨by omega, fun h => by have h3 := Kx3.out; rw [show n1 - e = xs.length - (off + e) by omega, show c1 - e = c - (off + e) by omega, Nat.add_assoc] at h3; exact h3, fun h => ⟨_, _, by have h3 := Kx3.out; rw [show n1 - e = 0 by omega] at h3; exact h3⟩⟩, KJ3.out, Kb3.out⟩
          case measure =>
            obtain ⟨z1, z2, z3, z4, z5, z6⟩ := Kar.out
            rw [boxN_eq Kx3.out, boxN_eq Kbx.out]
            have z7 := Kn1.out
            omega
      · rw [if_neg h10] at K1
        have hen := hnone h10
        subst hen
        clear hnone h10
        obtain ⟨fn, tmps, assign, body, hy, hR⟩ := KYk.out (wr.setCell ⟨Bs, 0, none⟩ (.slice none 0 0)) (KJ.out off wr _ Kj.out (fx_set _ _ _))
        have Kbx2 := Kept.mk (Kbx.out.set (.slice none 0 0))
        gi_wp2_with (refine ⟨trivial, ?_⟩; gi_at_call 49; refine (callsIn_wide.2 K1.out).mono ?_; rintro e2 w2 ⟨rfl, rfl⟩)
        refine hR.mono ?_
        rintro e3 W3 ⟨rfl, hJ3, hB3, hb3⟩
        have Kx3 : Kept (Boxed W3 Bs 42 (.slice none 0 0)) := ⟨hB3.trans Kbx2.out⟩
        have KJ3 := Kept.mk hJ3
        have Kb3 := Kept.mk ((Kbel.out.trans ((fx_set w2 Bs (.slice none 0 0)).below (by have := Kbx.out.lt; omega) (by omega))).trans hb3)
        clear hB3 hb3 hJ3 hy hR
        gi_wp2
        go_roundw
        case rel => exact ⟨off + (xs.length - off), ⟨by omega, fun h => by omega, fun _ => ⟨_, _, Kx3.out⟩⟩, KJ3.out, Kb3.out⟩
        case measure => rw [boxN_eq Kx3.out, boxN_eq Kbx.out]; omega
    · obtain rfl : off = xs.length := by omega
      obtain ⟨p, q, hbx⟩ := hb.last rfl
      have hcl := hbx.cell
      have Kj := Kept.mk hj
      clear hb hj hbel hbx
      gi_wp2
      go_end0
      exact ⟨⟨_, rfl⟩, Kj.out⟩
end Go.Proofs.Ytjhcpmhjdhmjpaa
