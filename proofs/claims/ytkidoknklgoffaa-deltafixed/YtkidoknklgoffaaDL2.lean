/-
  The walk of DeltaCopies.
-/
import Derived.Test.YtkidoknklgoffaaDL2A
import Derived.OwnWalk
namespace Go.Proofs.Ytkidoknklgoffaa
open Go.RowKit

theorem sizeS_form (xs l ys : List Int) (x : Int) (hf : Nu.SpanForm l) (hv : Nu.sizeV l = x) (hx : x < 18446744073709551616) : Nu.sizeS (xs ++ (l ++ ys)) (xs.length : Int) = (x, (xs.length : Int) + l.length, 0) := by
  have he := Nu.endS_there xs l ys hf
  rw [Nu.sizeS_some (m := l.length) (by rw [he]) (by rw [he]), List.drop_left, List.take_left, hv, if_pos hx]
/-- What a delta makes, however its sizes are spelt. -/
theorem appl_hd {base target I l1 l2 : List Int} (hg : AllB base) (hb : base.length ≤ 1048576) (ht : target.length ≤ 1048576) (h : Tl base I target) (f1 : Nu.SpanForm l1) (v1 : Nu.sizeV l1 = base.length) (f2 : Nu.SpanForm l2) (v2 : Nu.sizeV l2 = target.length) (a1 : AllB l1) (a2 : AllB l2) (most : Nat) (hm : target.length ≤ most) :
    applF base (l1 ++ (l2 ++ I)) most = .ok target := by
  have e1 : Nu.sizeS (l1 ++ (l2 ++ I)) 0 = ((base.length : Int), (l1.length : Int), 0) := by
    have := sizeS_form [] l1 (l2 ++ I) base.length f1 v1 (by omega)
    simpa using this
  have e2 : Nu.sizeS (l1 ++ (l2 ++ I)) (l1.length : Int) = ((target.length : Int), (l1.length : Int) + (l2.length : Int), 0) := sizeS_form l1 l2 I target.length f2 v2 (by omega)
  have e3 : hdF base.length (l1 ++ (l2 ++ I)) most = .ok (target.length, (l1 ++ l2).length) := by
    unfold hdF
    rw [e1]
    simp only [ne_eq, not_true_eq_false, if_false]
    rw [e2]
    simp only [not_true_eq_false, if_false]
    rw [if_neg (by omega), Int.toNat_natCast, List.length_append]
    congr 2
  unfold applF
  rw [e3]
  simp only []
  have hA : AllB (l1 ++ (l2 ++ I)) := a1.append (a2.append h.1)
  have e4 := h.2 (l1 ++ l2) [] target.length [] (a1.append a2) AllIn.nil (by simp)
  have e5 : (l1 ++ l2) ++ (I ++ []) = l1 ++ (l2 ++ I) := by simp
  rw [e5] at e4
  unfold goD at e4
  rw [goF_fuel base _ hg hA _ (l1 ++ (l2 ++ I)).length.succ ((l1 ++ (l2 ++ I)).length - (l1 ++ l2).length + 1) _ _ (by omega) (by omega), e4]
  have e6 : ((l1 ++ l2) ++ I).length = (l1 ++ (l2 ++ I)).length := by simp
  rw [e6, Nat.sub_self, goF_ge base _ _ _ (by omega), List.nil_append, if_neg (by omega)]

set_option maxHeartbeats 4000000 in
set_option maxRecDepth 100000 in
theorem copies_walk {S : Nat → Prop} (v : Value) (p : List Int) (at_ n : Int) (w : World) (h : Rd .u8 S w v p) (hp : AllB p) (hl : p.length + 20 ≤ 140737488355328) (_bd1 : -9223372036854775808 ≤ at_ ∧ at_ ≤ 9223372036854775807) (_bd2 : -9223372036854775808 ≤ n ∧ n ≤ 9223372036854775807) :
    Calls Try.prog 4 #[v, .int .i64 at_, .int .i64 n] w fun e w' => e = .returned (.bool true) ∧ Below w.heap.size w w' := by
  have KW := Kept.mk (awake_any w)
  obtain ⟨va, vc, rfl, -, -, -⟩ := h.form
  have KH := Kept.mk h
  have KP := Kept.mk hp
  clear h hp
  obtain ⟨E, hE⟩ : ∃ E : Int, (if cpOk at_ n then (0 : Int) else 1) = E := ⟨_, rfl⟩
  obtain ⟨CL, hCL⟩ : ∃ CL : List Int, (if cpOk at_ n then p ++ cpL at_ n else []) = CL := ⟨_, rfl⟩
  have hAll : AllB CL := by
    rw [← hCL]
    split
    · exact KP.out.append (cpL_all _ _)
    · exact AllIn.nil
  have KAll := Kept.mk hAll
  have KP3 : Kept (∀ (v : Value) (w : World) {S : Nat → Prop}, Rd .u8 S w v p → Calls Try.prog 14 #[v, .int .i64 at_, .int .i64 n] w fun e w' => ∃ v', e = .returned (.tuple #[v', .int .i64 E]) ∧ Own .u8 5 w' w.heap.size v' CL ∧ Below w.heap.size w w') := ⟨fun v w S hr => (putCopy_any v p at_ n w hr KP.out hl).mono fun e w' h => by
    obtain ⟨v', h1, h2, h3⟩ := h
    rw [hE] at h1
    rw [hCL] at h2
    exact ⟨v', h1, h2, h3⟩⟩
  have KP4 : Kept (∀ (v : Value) (w : World) {S : Nat → Prop}, Rd .u8 S w v p → Calls Try.prog 15 #[v, .int .i64 at_, .int .i64 n] w fun e w' => ∃ v', e = .returned (.tuple #[v', .int .i64 E]) ∧ Own .u8 5 w' w.heap.size v' CL ∧ Below w.heap.size w w') := ⟨fun v w S hr => (docPutCopy_any v p at_ n w hr hl).mono fun e w' h => by
    obtain ⟨v', h1, h2, h3⟩ := h
    rw [hE] at h1
    rw [hCL] at h2
    exact ⟨v', h1, h2, h3⟩⟩
  have KE := Kept.mk hE
  clear hE hCL hAll
  go_enter Try.func4, Try.ntmps4
  go_wp2_with fail
  refine Calls.mono KW.out (fun e w1 hp => ?_)
  obtain ⟨rfl, hb1⟩ := hp
  have K2 := Kept.mk (twin_any _ p w1 (KH.out.later hb1 (Nat.le_refl _)) (by omega))
  have KB1 := Kept.mk hb1
  clear hb1
  go_wp2_with fail
  refine Calls.mono K2.out (fun e w2 hp => ?_)
  obtain ⟨v2, rfl, ho2, hb2⟩ := hp
  have KB2 := Kept.mk (KB1.out.trans (hb2.mono KB1.out.size))
  have K3 := Kept.mk (KP3.out _ w2 ho2.rd)
  clear ho2 hb2 K2 KB1
  go_wp2_with fail
  refine Calls.mono K3.out (fun e w3 hp => ?_)
  obtain ⟨v3, rfl, ho3, hb3⟩ := hp
  have hB3 : Below w.heap.size w w3 := KB2.out.trans (hb3.mono KB2.out.size)
  have K4 := Kept.mk (KP4.out _ w3 (KH.out.later hB3 (Nat.le_refl _)))
  have KB3 := Kept.mk hB3
  have KO3 := Kept.mk ho3
  clear ho3 hb3 hB3 K3 KB2
  go_wp2_with fail
  refine Calls.mono K4.out (fun e w4 hp => ?_)
  obtain ⟨v4, rfl, ho4, hb4⟩ := hp
  have hB4 : Below w.heap.size w w4 := KB3.out.trans (hb4.mono KB3.out.size)
  have K5 := same_any _ _ _ _ w4 (KO3.out.later hb4 (Nat.le_refl _)).rd ho4.rd KAll.out KAll.out
  rw [decide_eq_true rfl] at K5
  have K5 := Kept.mk K5
  have KB4 := Kept.mk hB4
  clear ho4 hb4 hB4 K4 KO3 KB3
  go_wp2_with fail
  refine Calls.mono K5.out (fun e w5 hp => ?_)
  obtain ⟨rfl, rfl⟩ := hp
  by_cases hok : cpOk at_ n
  · have hE0 : E = 0 := by rw [← KE.out, if_pos hok]
    subst hE0
    obtain ⟨h1, h2, h3, h4⟩ := hok
    obtain ⟨A, rfl⟩ := Int.eq_ofNat_of_zero_le h1
    obtain ⟨N, rfl⟩ := Int.eq_ofNat_of_zero_le (show 0 ≤ n by omega)
    by_cases h5 : 3000 < A
    · have h5o : decide ((3000 : Int) < (A : Int)) = true := by simp; omega
      clear h1 h2 h3 h4 h5
      go_wp2
      go_ret
      exact ⟨rfl, KB4.out⟩
    · have h5o : decide ((3000 : Int) < (A : Int)) = false := by simp; omega
      by_cases h6 : 3000 < N
      · have h6o : decide ((3000 : Int) < (N : Int)) = true := by simp; omega
        clear h1 h2 h3 h4 h5 h6
        go_wp2
        go_ret
        exact ⟨rfl, KB4.out⟩
      · have h6o : decide ((3000 : Int) < (N : Int)) = false := by simp; omega
        have hA3 : A ≤ 3000 := by omega
        have hN3 : N ≤ 3000 := by omega
        have hN1 : 1 ≤ N := by omega
        obtain ⟨i0, z0, hi, hz, hs, hb0, hc, hzz⟩ := Nu.info5
        obtain ⟨M, hM⟩ : ∃ M, M = A + N + 5 := ⟨_, rfl⟩
        have hMI : (A : Int) + N + 5 = (M : Int) := by omega
        have hMl : M ≤ 6005 := by omega
        have KM := Kept.mk hM
        have hmk1 : i0.bytes * M ≤ 281474976710656 := by rw [hb0]; omega
        have hmk2 : M ≤ maxLen := by unfold maxLen; omega
        have hwz := KB4.out.size
        clear h1 h2 h3 h4 h5 h6 hM
        go_wp2_with (at_make; refine wpList_make_full _ rfl _ _ 22 rfl w5.heap.size 5 i0 z0 1 Try.underlying22 hi hz hs .i64 .i64 (M : Int) (M : Int) M rfl rfl rfl rfl hmk1 hmk2 (Nat.le_refl _) ?_; intro w6 hown6 hgrow6; have KB6 := Kept.mk (KB4.out.grown hgrow6 hwz (by intro k hk; cases hk)); have KO6 := Kept.mk hown6; clear hown6 hgrow6)
        have hO6 : Own .u8 5 w6 w5.heap.size (.slice (some ⟨w5.heap.size, 0, none⟩) M M) (List.replicate M 0) := by
          have h1 := KO6.out
          rw [hzz, Nat.mul_one] at h1
          unfold Own
          rw [List.length_replicate]
          have e : (madeCells (Value.int .u8 0).cells M).toList = cellsK .u8 (List.replicate M 0) := by
            rw [show (Value.int IntKind.u8 0).cells = #[Value.int .u8 0] from rfl, toList_madeCells_one]
            simp [cellsK]
          rw [e] at h1
          exact h1
        have KOm := Kept.mk hO6
        clear hO6 KO6
        go_loopw [58] (fun iv wr => ∃ (k : Nat) (bs : List Int), iv = .int .i64 k ∧ k ≤ M ∧ bs.length = M ∧ AllB bs ∧ Own .u8 5 wr w5.heap.size (.slice (some ⟨w5.heap.size, 0, none⟩) M M) bs ∧ Below w.heap.size w wr) (fun iv _ => M - (intOf iv).toNat)
        case atStart => exact ⟨0, List.replicate M 0, rfl, by omega, by simp, fun x hx => by rw [List.eq_of_mem_replicate hx]; omega, KOm.out, KB6.out⟩
        case round =>
          clear KOm KB6
          obtain ⟨k, bs, rfl, hk, hbs, hab, how, hbel⟩ := hrel
          by_cases hkM : k = M
          · have hko : decide (k < M) = false := by simp; omega
            have KB7 := Kept.mk hbel
            have KO7 := Kept.mk how
            have KAb := Kept.mk hab
            have KLb := Kept.mk hbs
            clear how hbel hab hbs hkM
            have hh : AllB [(M : Int) % 128 + 128, (M : Int) / 128 % 128 + 128, (M : Int) / 16384, (N : Int) % 128 + 128, (N : Int) / 128] := by
              intro x hx
              simp only [List.mem_cons, List.not_mem_nil, or_false] at hx
              rcases hx with rfl | rfl | rfl | rfl | rfl <;> omega
            have hok : cpOk A N := by unfold cpOk; omega
            have K8 := putCopy_any _ [(M : Int) % 128 + 128, (M : Int) / 128 % 128 + 128, (M : Int) / 16384, (N : Int) % 128 + 128, (N : Int) / 128] A N _ (Rd.lit .u8 wr [(M : Int) % 128 + 128, (M : Int) / 128 % 128 + 128, (M : Int) / 16384, (N : Int) % 128 + 128, (N : Int) / 128] 5 (by simp)) hh (by simp)
            have hmul : applF bs ([(M : Int) % 128 + 128, (M : Int) / 128 % 128 + 128, (M : Int) / 16384, (N : Int) % 128 + 128, (N : Int) / 128] ++ cpL A N) N = .ok ((bs.drop A).take N) := by
              have hb := KLb.out
              have hm := KM.out
              have htl : ((bs.drop A).take N).length = N := by simp; omega
              have h1 := appl_hd (base := bs) (target := (bs.drop A).take N) (I := cpL A N) (l1 := [(M : Int) % 128 + 128, (M : Int) / 128 % 128 + 128, (M : Int) / 16384]) (l2 := [(N : Int) % 128 + 128, (N : Int) / 128]) KAb.out (by omega) (by omega) (Tl.copy KAb.out hN1 (by omega) (by omega) (by omega)) (by simp only [Nu.SpanForm]; omega) (by simp only [Nu.sizeV]; omega) (by simp only [Nu.SpanForm]; omega) (by simp only [Nu.sizeV]; omega) (fun x hx => hh x (by simp only [List.mem_cons, List.not_mem_nil, or_false] at hx ⊢; omega)) (fun x hx => hh x (by simp only [List.mem_cons, List.not_mem_nil, or_false] at hx ⊢; omega)) N (by omega)
              exact h1
            have hB8 : Below wr.heap.size wr (wr.alloc (.cells (cellsK .u8 [(M : Int) % 128 + 128, (M : Int) / 128 % 128 + 128, (M : Int) / 16384, (N : Int) % 128 + 128, (N : Int) / 128]).toArray 5)) := (Below.refl _ _).alloc (Nat.le_refl _) _
            have K8 : Kept (Calls Try.prog 14 #[.slice (some ⟨wr.heap.size, 0, none⟩) 5 5, .int .i64 A, .int .i64 N] (wr.alloc (.cells (cellsK .u8 [(M : Int) % 128 + 128, (M : Int) / 128 % 128 + 128, (M : Int) / 16384, (N : Int) % 128 + 128, (N : Int) / 128]).toArray 5)) fun e w' => ∃ v', e = .returned (.tuple #[v', .int .i64 0]) ∧ Own .u8 5 w' wr.heap.size v' ([(M : Int) % 128 + 128, (M : Int) / 128 % 128 + 128, (M : Int) / 16384, (N : Int) % 128 + 128, (N : Int) / 128] ++ cpL A N) ∧ Below wr.heap.size wr w') := ⟨Calls.mono K8 fun e w' h => by
              obtain ⟨v', h1, h2, h3⟩ := h
              rw [if_pos hok] at h1 h2
              exact ⟨v', h1, h2.mono hB8.size, hB8.trans (h3.mono hB8.size)⟩⟩
            have hDa : AllB ([(M : Int) % 128 + 128, (M : Int) / 128 % 128 + 128, (M : Int) / 16384, (N : Int) % 128 + 128, (N : Int) / 128] ++ cpL A N) := hh.append (cpL_all _ _)
            have hDl : ([(M : Int) % 128 + 128, (M : Int) / 128 % 128 + 128, (M : Int) / 16384, (N : Int) % 128 + 128, (N : Int) / 128] ++ cpL A N).length ≤ 1000 := by
              have := cpL_len A N
              simp
              omega
            generalize [(M : Int) % 128 + 128, (M : Int) / 128 % 128 + 128, (M : Int) / 16384, (N : Int) % 128 + 128, (N : Int) / 128] ++ cpL A N = D at *
            have KDl := Kept.mk hDl
            have KDa := Kept.mk hDa
            have KMu := Kept.mk hmul
            clear hh hok hmul hB8 hDa hDl
            go_wp2_with fail
            refine Calls.mono K8.out (fun e w8 hp => ?_)
            obtain ⟨v8, rfl, ho8, hb8⟩ := hp
            have K9 := apply_any _ _ bs D N w8 (KO7.out.later hb8 (Nat.le_refl _)).rd ho8.rd KAb.out KDa.out (by have := KDl.out; omega) (by have := KLb.out; omega) (by omega)
            rw [KMu.out] at K9
            have K9 := Kept.mk K9
            have KO8 := Kept.mk (KO7.out.later hb8 (Nat.le_refl _))
            have KB8 := Kept.mk (KB7.out.trans (hb8.mono KB7.out.size))
            clear ho8 hb8 K8 KO7 KB7
            go_wp2_with fail
            refine Calls.mono K9.out (fun e w9 hp => ?_)
            obtain ⟨v9, rfl, ho9, ha9, -, hb9⟩ := hp
            have hpr := Rd.piece2 (i := A) (j := A + N) (KO8.out.later hb9 (Nat.le_refl _)).rd (by omega) (by have := KLb.out; have := KM.out; omega)
            rw [Nat.add_sub_cancel_left, Nat.zero_add] at hpr
            have K10 := same_any _ _ _ _ w9 ho9.rd hpr ha9 ha9
            rw [decide_eq_true rfl] at K10
            have K10 := Kept.mk K10
            have KB9 := Kept.mk (KB8.out.trans (hb9.mono KB8.out.size))
            have hs1 : (A : Int) + N ≤ (M : Int) := by omega
            have hs2 : ¬ M = A := by have := KM.out; omega
            clear ho9 ha9 hb9 hpr K9 KO8 KB8
            go_wp2_with fail
            refine Calls.mono K10.out (fun e w10 hp => ?_)
            obtain ⟨rfl, rfl⟩ := hp
            go_wp2
            go_ret
            exact ⟨rfl, KB9.out⟩
          · have hko : decide ((k : Int) < (M : Int)) = true := by simp; omega
            obtain ⟨g, hg, -, hbg, hgl, hcells, hfz⟩ := how.addr (by omega)
            have ck := hcells k (by omega)
            have fk := hfz k
            have hkb : (k : Int) < (M : Int) := by omega
            injection hg with hg
            injection hg with hg
            rw [← hg] at ck fk
            have KO7 := Kept.mk how
            have KB7 := Kept.mk hbel
            have KAb := Kept.mk hab
            have KLb := Kept.mk hbs
            clear how hbel hab hbs hcells hfz hg
            go_wp2
            refine ⟨⟨k + 1, bs.set k (((k : Int) * 7 + (k : Int) / 256) % 256), rfl, by omega, by rw [List.length_set]; exact KLb.out, ?_, KO7.out.set k _, KB7.out.setCell (p := ⟨w5.heap.size, k, none⟩) hwz _⟩, by simp [intOf]; omega⟩
            intro x hx
            rcases List.mem_or_eq_of_mem_set hx with h | h
            · exact KAb.out x h
            · omega
  · have hE0 : E = 1 := by rw [← KE.out, if_neg hok]
    subst hE0
    clear hok
    go_wp2
    go_ret
    exact ⟨rfl, KB4.out⟩
end Go.Proofs.Ytkidoknklgoffaa
