/-
  Walks: slices.Repeat of one number.
-/
import Derived.Test.YtidpdhnbnecddaaM3
import Derived.Test.YtidpdhnbnecddaaWM
import Derived.Test.YtidpdhnbnecddaaShelf
import Derived.Deep.RegionLaw
import Derived.Laws.CopyOwn
namespace Go.Proofs.Ytidpdhnbnecddaa
open Go.RowKit

abbrev gone : Value := .int .i64 (-1)
/-- The first k cells of a row are gone. -/
theorem splice_gone {cs : List Value} {n k : Nat} (hl : cs.length = n) (hk : k ≤ n) (ht : cs.take k = List.replicate k gone) :
    (splice cs k (List.replicate (Nat.min k (n - k)) gone)).length = n ∧ (splice cs k (List.replicate (Nat.min k (n - k)) gone)).take (k + Nat.min k (n - k)) = List.replicate (k + Nat.min k (n - k)) gone := by
  have hm : Nat.min k (n - k) ≤ n - k := Nat.min_le_right _ _
  generalize Nat.min k (n - k) = m at *
  refine ⟨by rw [length_splice _ _ _ (by rw [List.length_replicate]; omega)]; exact hl, ?_⟩
  unfold splice
  rw [ht]
  simp only [← List.append_assoc]
  rw [List.replicate_append_replicate, List.take_append_of_le_length (by simp), List.take_of_length_le (by simp)]
/-- Where the filling stands. -/
def RpI (w wr : World) (n k : Nat) : Prop := ∃ cs, cs.length = n ∧ Bk wr w.heap.size 3 cs ∧ cs.take k = List.replicate k gone ∧ k ≤ n ∧ (k = 0 → n = 0) ∧ Below w.heap.size w wr
set_option maxHeartbeats 1000000 in
set_option maxRecDepth 100000 in
theorem repeat_any (b n : Nat) (w : World) (hb : w.cell? ⟨b, 0, none⟩ = some gone) (hn : n ≤ 1000000) :
    Calls Try.prog 41 #[.slice (some ⟨b, 0, none⟩) 1 1, .int .i64 n] w fun e w' => e = .returned (.slice (some ⟨w.heap.size, 0, none⟩) n n) ∧ Bk w' w.heap.size 3 (List.replicate n gone) ∧ Below w.heap.size w w' := by
  obtain ⟨i0, z0, hi, hz, hsz, hbt, hzc⟩ := info64
  have K1 := Kept.mk (Try.bits_Mul 1 n (by decide) (by omega) w)
  have KC := Kept.mk hb
  have hn0 : ¬ ((n : Int) < 0) := by omega
  have cn : IntKind.u64.wrap (n : Int) = (n : Int) := by rw [show IntKind.u64.wrap (n : Int) = (n : Int) % 18446744073709551616 from rfl]; omega
  have Kb1 : Kept (i0.bytes * n ≤ 281474976710656) := ⟨by rw [hbt]; omega⟩
  have Kb2 : Kept (n ≤ maxLen) := ⟨by unfold maxLen; omega⟩
  have hsz1 : (Try.prog.info? 3).map (·.size) = some 1 := by rw [hi]; simp [hsz]
  clear hb
  go_enter Try.func41, Try.ntmps41
  go_wp2_with fail
  refine Calls.mono K1.out (fun e w1 hp => ?_)
  obtain ⟨rfl, rfl⟩ := hp
  clear K1
  have e1 : (1 * n / 18446744073709551616 : Nat) = 0 := by omega
  have e2 : (1 * n % 18446744073709551616 : Nat) = n := by omega
  rw [e1, e2]
  have g1 : ¬ ((n : Int) > 9223372036854775807) := by omega
  have cn2 : IntKind.i64.wrap (n : Int) = (n : Int) := wr64 (by omega) (by omega)
  go_upto_region 7 with (at_make; refine wpList_make_lc _ rfl _ _ 62 rfl 3 i0 z0 Try.underlying62 hi hz hsz .i64 .i64 (n : Int) (n : Int) n n rfl rfl rfl rfl (Nat.le_refl _) Kb1.out Kb2.out ?_; intro w2 cs hcs hbk hbl; have Kcs := Kept.mk hcs; have KK2 := Kept.mk hbk; have KB2 := Kept.mk hbl; clear hcs hbk hbl)
  have Kone : Kept (∀ v ∈ List.replicate (Nat.min 1 n) gone, v.oneCell' = true) := ⟨fun v hv => by rw [List.eq_of_mem_replicate hv]; rfl⟩
  have Ksrc : Kept (∀ j v, (List.replicate (Nat.min 1 n) gone)[j]? = some v → w2.cell? ((⟨b, 0, none⟩ : Addr).add j) = some v) := ⟨fun j v hv => by
    have h1 : j < Nat.min 1 n := by have := (List.getElem?_eq_some_iff.1 hv).1; simpa using this
    have h2 : Nat.min 1 n ≤ 1 := Nat.min_le_left _ _
    obtain rfl : j = 0 := by omega
    rw [List.getElem?_replicate_of_lt h1] at hv
    injection hv with hv
    rw [add_plain, ← hv]
    rw [KB2.out.cell (World.block_lt_of_cell? _ _ KC.out)]
    exact KC.out⟩
  have Kfit : Kept (0 + (List.replicate (Nat.min 1 n) gone).length ≤ cs.length) := ⟨by rw [Kcs.out, List.length_replicate, Nat.zero_add]; exact Nat.min_le_right _ _⟩
  go_upto_region 8 with (refine wpList_copy_splice rfl _ _ 62 62 rfl 3 Try.underlying62 hsz1 (some ⟨w1.heap.size, 0, none⟩) (some ⟨b, 0, none⟩) n n 1 1 rfl rfl w1.heap.size 0 cs 3 KK2.out (List.replicate (Nat.min 1 n) gone) (by rw [List.length_replicate]) (fun _ => ⟨rfl, _, rfl, Ksrc.out⟩) Kfit.out Kone.out w1.heap.size w1 KB2.out (Nat.le_refl _) ?_; intro w3 hh3 hb3; have KK3 := Kept.mk hh3; have KB3 := Kept.mk hb3; clear hh3 hb3)
  have KI : Kept (RpI w1 w3 n (Nat.min 1 n)) := ⟨by
    refine ⟨_, by rw [length_splice _ _ _ Kfit.out]; exact Kcs.out, KK3.out, ?_, Nat.min_le_right _ _, fun h => ?_, KB3.out⟩
    · unfold splice
      rw [List.take_zero, List.nil_append, List.take_append_of_le_length (by simp), List.take_of_length_le (by simp)]
    · rcases Nat.eq_zero_or_pos n with h0 | h0
      · exact h0
      · have h' : min 1 n = 0 := h
        omega⟩
  have KM : Kept ((List.replicate (Nat.min 1 n) gone).length = Nat.min 1 n) := ⟨List.length_replicate⟩
  clear KK3 KB3 Kfit Ksrc Kone KK2 KB2 Kcs
  generalize Nat.min 1 n = k0 at *
  go_loopw [8] (fun iv wr => ∃ k : Nat, iv = .int .i64 k ∧ RpI w1 wr n k) (fun iv _ => n - (intOf iv).toNat)
  case atStart => exact ⟨k0, rfl, KI.out⟩
  case round =>
    clear KI KM
    obtain ⟨k, rfl, cs, hl, hbk, ht, hkn, hk0, hbl⟩ := hrel
    have KB := Kept.mk hbl
    by_cases hlt : k < n
    · have hki : (k : Int) < (n : Int) := by omega
      have n0 : (0 : Int) ≤ (k : Int) := by omega
      have n1 : (k : Int) ≤ (n : Int) := by omega
      have hcap : ¬ (n - k = 0) := by omega
      have hne : ¬ n = k := by omega
      have n2 : ((n : Int) - (k : Int)).toNat = n - k := by omega
      have hm : Nat.min k (n - k) ≤ n - k := Nat.min_le_right _ _
      have hm2 : Nat.min k (n - k) ≤ k := Nat.min_le_left _ _
      have hm0 : 0 < Nat.min k (n - k) := by show 0 < min k (n - k); omega
      have e3 : IntKind.i64.wrap ((k : Int) + ((Nat.min k (n - k) : Nat) : Int)) = (k : Int) + ((Nat.min k (n - k) : Nat) : Int) := wr64 (by omega) (by omega)
      obtain ⟨sl, st⟩ := splice_gone hl hkn ht
      have Ksl := Kept.mk sl
      have Kst := Kept.mk st
      have Kbk : Kept (Bk wr w1.heap.size 3 cs) := ⟨hbk⟩
      have Kone : Kept (∀ v ∈ List.replicate (Nat.min k (n - k)) gone, v.oneCell' = true) := ⟨fun v hv => by rw [List.eq_of_mem_replicate hv]; rfl⟩
      have Ksrc : Kept (∀ j v, (List.replicate (Nat.min k (n - k)) gone)[j]? = some v → wr.cell? ((⟨w1.heap.size, 0, none⟩ : Addr).add j) = some v) := ⟨fun j v hv => by
        have h1 : j < Nat.min k (n - k) := by have := (List.getElem?_eq_some_iff.1 hv).1; simpa using this
        rw [List.getElem?_replicate_of_lt h1] at hv
        injection hv with hv
        rw [add_plain, ← hv, Nat.zero_add]
        refine Kbk.out.cell j gone ?_
        have h2 : (cs.take k)[j]? = some gone := by rw [ht, List.getElem?_replicate_of_lt (by omega)]
        rw [List.getElem?_take_of_lt (by omega)] at h2
        exact h2⟩
      have Kfit : Kept (k + (List.replicate (Nat.min k (n - k)) gone).length ≤ cs.length) := ⟨by rw [hl, List.length_replicate]; omega⟩
      have Klen : Kept ((List.replicate (Nat.min k (n - k)) gone).length = Nat.min k (n - k)) := ⟨List.length_replicate⟩
      have Km : Kept (0 < Nat.min k (n - k) ∧ Nat.min k (n - k) ≤ n - k) := ⟨hm0, hm⟩
      clear hl hbk ht hbl sl st hm hm2 hm0 hk0
      generalize hM : Nat.min k (n - k) = m at *
      have KM := Kept.mk hM
      clear hM
      go_upto_region 9 with fail
      go_region_law (refine step_copy_splice rfl (.tmp 41) (.tmp 44) 62 62 rfl 3 Try.underlying62 hsz1 (some ⟨w1.heap.size, k, none⟩) (some ⟨w1.heap.size, 0, none⟩) (n - k) (n - k) k n (by simp [Act.eval, Act.put]) (by simp [Act.eval, Act.put]) w1.heap.size k cs 3 Kbk.out (List.replicate m gone) (by rw [KM.out]; exact Klen.out) (fun _ => ⟨rfl, _, rfl, Ksrc.out⟩) Kfit.out Kone.out w1.heap.size w1 ⟨KB.out.os, KB.out.tape, KB.out.output, KB.out.size, KB.out.block⟩ (Nat.le_refl _) ?_; intro w4 hg4 hb4; have KG4 := Kept.mk hg4; have KB4 := Kept.mk hb4; clear hg4 hb4)
      simp [Act.put]
      go_roundw
      case rel =>
        exact ⟨_, _, _, _, _, _, _, _, _, _, _, _, _, _, ⟨k + m, rfl, _, Ksl.out, KG4.out, Kst.out, by have := Km.out; omega, fun h => by have := Km.out; omega, KB4.out⟩, by rfl⟩
      case measure =>
        have := Km.out
        simp [intOf]
        omega
    · obtain rfl : k = n := by omega
      have hki : ¬ (k : Int) < (k : Int) := by omega
      have KE : Kept (Bk wr w1.heap.size 3 (List.replicate k gone)) := ⟨by rw [← ht, List.take_of_length_le (by omega)]; exact hbk⟩
      clear hbk ht hl hbl
      go_wp2
      go_ret
      exact ⟨rfl, KE.out, KB.out⟩


/-- The places of the lines that stay, by the way. -/
def plF : List Pt → List Int → List Int
  | p :: q :: r, P => plF (q :: r) (if q = (p.1 + 1, p.2 + 1) then P.set p.1 (p.2 : Int) else P)
  | _, P => P
theorem plF_len : ∀ (W : List Pt) (P : List Int), (plF W P).length = P.length
  | [], P => rfl
  | [_], P => rfl
  | p :: q :: r, P => by
    rw [plF, plF_len (q :: r)]
    split <;> simp
theorem plF_drop {W : List Pt} {j : Nat} {p q : Pt} (hp : W[j]? = some p) (hq : W[j + 1]? = some q) (P : List Int) : plF (W.drop j) P = plF (W.drop (j + 1)) (if q = (p.1 + 1, p.2 + 1) then P.set p.1 (p.2 : Int) else P) := by
  have h1 : W.drop j = p :: W.drop (j + 1) := by
    have hl := (List.getElem?_eq_some_iff.1 hp).1
    rw [List.drop_eq_getElem_cons hl]
    rw [List.getElem?_eq_getElem hl] at hp
    injection hp with hp
    rw [hp]
  have h2 : W.drop (j + 1) = q :: W.drop (j + 2) := by
    have hl := (List.getElem?_eq_some_iff.1 hq).1
    rw [List.drop_eq_getElem_cons hl]
    rw [List.getElem?_eq_getElem hl] at hq
    injection hq with hq
    rw [hq]
  rw [h1, h2, plF]
def plP (a b : List ByteArray) : List Int := plF (wayP a b 0 0) (List.replicate a.length (-1))
theorem cellsK_gone (n : Nat) : cellsK .i64 (List.replicate n (-1)) = List.replicate n gone := by simp [cellsK]
theorem cellsK_set (P : List Int) (x : Nat) (y : Int) : cellsK .i64 (P.set x y) = (cellsK .i64 P).set x (.int .i64 y) := by simp [cellsK, List.map_set]
set_option maxHeartbeats 2000000 in
set_option maxRecDepth 100000 in
theorem places_any (v u : Value) (a b : List ByteArray) (w : World) (hv : RdS w v a) (hu : RdS w u b) (ha : ∀ s ∈ a, s.size ≤ maxLen) (hb : ∀ s ∈ b, s.size ≤ maxLen) (la : a.length ≤ 1000) (lb : b.length ≤ 1000) (hL : longB a.length b.length = false) :
    Calls Try.prog 32 #[v, u] w fun e w' => ∃ g, w.heap.size ≤ g ∧ e = .returned (.slice (some ⟨g, 0, none⟩) a.length a.length) ∧ Bk w' g 3 (cellsK .i64 (plP a b)) ∧ Below w.heap.size w w' := by
  have KV := Kept.mk hv
  have KU := Kept.mk hu
  have Ka := Kept.mk ha
  have Kb := Kept.mk hb
  obtain ⟨pa, pc, rfl⟩ := hv.form
  obtain ⟨qa, qc, rfl⟩ := hu.form
  have KB0 := Kept.mk ((Below.refl w.heap.size w).alloc (Nat.le_refl _) (.cells #[gone] 3))
  have K1 := Kept.mk (repeat_any w.heap.size a.length (w.alloc (.cells #[gone] 3)) ((Bk.new w 3 [gone]).cell 0 gone rfl) (by omega))
  clear hv hu ha hb
  go_enter Try.func32, Try.ntmps32
  go_wp2_with fail
  refine Calls.mono K1.out (fun e w1 hp => ?_)
  obtain ⟨rfl, hbk, hb1⟩ := hp
  have KB1 := Kept.mk (KB0.out.trans (hb1.mono KB0.out.size))
  have Kbk := Kept.mk hbk
  have hgl : w.heap.size ≤ (w.alloc (.cells #[gone] 3)).heap.size := KB0.out.size
  generalize (w.alloc (.cells #[gone] 3)).heap.size = lg at *
  have Kgl := Kept.mk hgl
  have K2 := Kept.mk (way_any _ _ a b w1 (KV.out.later KB1.out (Nat.le_refl _)) (KU.out.later KB1.out (Nat.le_refl _)) Ka.out Kb.out)
  clear K1 hbk hb1 hgl KB0
  go_wp2_with fail
  refine Calls.mono K2.out (fun e w2 hp => ?_)
  obtain ⟨hB2, hor⟩ := hp
  rcases hor with ⟨hL2, -⟩ | ⟨-, v2, rfl, ho⟩
  · rw [hL] at hL2; cases hL2
  obtain ⟨hok, -, hlen⟩ := way_all a b _ a b 0 0 (Nat.le_refl _) rfl rfl (Nat.zero_le _) (Nat.zero_le _)
  obtain ⟨r0, hr0⟩ := wayP_head a b 0 0
  have hne : wayP a b 0 0 ≠ [] := by rw [hr0]; simp
  have hpos : 0 < (wayP a b 0 0).length := by rw [hr0]; simp
  obtain ⟨g, cap, hv2, hgb, hcell⟩ := ho.open hne
  subst hv2
  have KB2 := Kept.mk (KB1.out.trans (hB2.mono KB1.out.size))
  have Kb2 : Kept (Bk w2 lg 3 (cellsK .i64 (List.replicate a.length (-1)))) := ⟨by rw [cellsK_gone]; exact Kbk.out.far (hB2.block lg Kbk.out.lt)⟩
  have Kng : Kept (g ≠ lg) := ⟨by have := Kbk.out.lt; omega⟩
  have Kcell : Kept (∀ wr, Fx (fun k => k = lg) w2 wr → ∀ j (q : Pt), (wayP a b 0 0)[j]? = some q → wr.cell? ⟨g, j, none⟩ = some (.complex .f64 (fl q.1) (fl q.2))) := ⟨fun wr hx j q hq => by
    have h := hcell w2 (Below.refl _ _) j q hq
    rw [World.cell?_of_block (w := w2) (a := ⟨g, j, none⟩) (hx.block g (World.block_lt_of_cell? _ _ h) Kng.out)]
    exact h⟩
  have KP : Kept (plP a b = plF (wayP a b 0 0) (List.replicate a.length (-1))) := ⟨rfl⟩
  have Kok := Kept.mk hok
  clear K2 ho hok hcell hne hgb hB2 hr0 KV KU Kbk KB1
  generalize wayP a b 0 0 = W at *
  generalize hPe : plP a b = PP at *
  have KPe := Kept.mk hPe
  clear hPe
  generalize hP0 : List.replicate a.length (-1 : Int) = P0 at *
  have Kl0 : Kept (P0.length = a.length) := ⟨by rw [← hP0]; simp⟩
  clear hP0
  go_upto_region 4 with fail
  go_loopw [8] (fun iv wr => ∃ (j : Nat) (P : List Int), j < W.length ∧ iv = .int .i64 ((j : Int) + 1) ∧ P.length = a.length ∧ plF (W.drop j) P = PP ∧ Bk wr lg 3 (cellsK .i64 P) ∧ Fx (fun k => k = lg) w2 wr) (fun iv _ => W.length + 1 - (intOf iv).toNat)
  case atStart => exact ⟨0, P0, hpos, rfl, Kl0.out, KP.out.symm, Kb2.out, Fx.refl _ _⟩
  case round =>
    obtain ⟨j, P, hjl, rfl, hPl, hPP, hbk, hfx⟩ := hrel
    have Kbk := Kept.mk hbk
    have Kfx := Kept.mk hfx
    by_cases hlt : j + 1 < W.length
    · have hii : (j : Int) + 1 < (W.length : Int) := by omega
      have n0 : (0 : Int) ≤ (j : Int) := by omega
      have n1 : (j : Int) < (W.length : Int) := by omega
      have n2 : (0 : Int) ≤ (j : Int) + 1 := by omega
      have e0 : IntKind.i64.wrap ((j : Int) + 1 - 1) = (j : Int) := by rw [show (j : Int) + 1 - 1 = (j : Int) by omega]; exact wr64 (by omega) (by omega)
      have e1 : IntKind.i64.wrap ((j : Int) + 1 + 1) = (j : Int) + 1 + 1 := wr64 (by omega) (by omega)
      have e2 : ((j : Int) + 1).toNat = j + 1 := by omega
      have e3 : IntKind.i64.wrap (j : Int) = (j : Int) := wr64 (by omega) (by omega)
      obtain ⟨p, hp⟩ : ∃ p, W[j]? = some p := ⟨_, List.getElem?_eq_getElem (by omega)⟩
      obtain ⟨q, hq⟩ : ∃ q, W[j + 1]? = some q := ⟨_, List.getElem?_eq_getElem hlt⟩
      have hsk := Kok.out.steps j p q hp hq
      obtain ⟨p1, p2⟩ := Kok.out.small p (List.mem_of_getElem? hp)
      obtain ⟨q1, q2⟩ := Kok.out.small q (List.mem_of_getElem? hq)
      obtain ⟨x, y⟩ := p
      simp only at p1 p2
      have cp := Kcell.out wr hfx j (x, y) hp
      have cq := Kcell.out wr hfx (j + 1) q hq
      have Kdr := Kept.mk (plF_drop hp hq P)
      have KPP := Kept.mk hPP
      have hcx := fun W' => c_int (x := x) (by omega) W'
      have hcy := fun W' => c_int (x := y) (by omega) W'
      have x0 : (0 : Int) ≤ (x : Int) := by omega
      clear hp hq hPP hbk hfx
      rcases hsk with ⟨hd, s, hsa, hsb⟩ | hd | hd
      · have hsub := fun W' => c_sub (p := (x, y)) (q := q) (by simp; omega) (by simp; omega) (.inl ⟨hd, rfl, rfl⟩) W'
        simp only at hsub cp
        have hxl : x < a.length := by rw [hd] at q1 q2; simp only at q1 q2; omega
        have hxi : (x : Int) < (a.length : Int) := by omega
        have hcl : (cellsK .i64 P)[x]? = some (.int .i64 (P.getD x 0)) := by
          have h1 : x < P.length := by omega
          simp [cellsK, List.getD, List.getElem?_eq_getElem h1]
        have ccx := Kbk.out.cell x _ hcl
        have cfx := Kbk.out.frozen x
        have KE : Kept (plF (W.drop (j + 1)) (P.set x (y : Int)) = PP) := ⟨by rw [← KPP.out, Kdr.out, if_pos hd]⟩
        clear hcl hd
        generalize P.getD x 0 = old at *
        generalize fl q.1 = U at *
        generalize fl q.2 = V at *
        generalize fl x = X at *
        generalize fl y = Y at *
        go_wp2
        go_roundw
        case rel => exact ⟨j + 1, P.set x (y : Int), hlt, by go_num, by rw [List.length_set]; exact hPl, KE.out, by rw [cellsK_set]; exact Kbk.out.set x _, Kfx.out.trans (Fx.setCell _ _ _ _) (fun i _ e => e)⟩
        case measure => simp [intOf]; omega
      · have hsub := fun W' => c_sub (p := (x, y)) (q := q) (by simp; omega) (by simp; omega) (.inr (.inl ⟨hd, rfl, rfl⟩)) W'
        simp only at hsub cp
        have KE : Kept (plF (W.drop (j + 1)) P = PP) := ⟨by rw [← KPP.out, Kdr.out, if_neg (by rw [hd]; intro h; injection h with h1 h2; simp only at h1 h2; omega)]⟩
        clear hd
        generalize fl q.1 = U at *
        generalize fl q.2 = V at *
        generalize fl x = X at *
        generalize fl y = Y at *
        go_wp2
        go_roundw
        case rel => exact ⟨j + 1, P, hlt, by go_num, hPl, KE.out, Kbk.out, Kfx.out⟩
        case measure => simp [intOf]; omega
      · have hsub := fun W' => c_sub (p := (x, y)) (q := q) (by simp; omega) (by simp; omega) (.inr (.inr ⟨hd, rfl, rfl⟩)) W'
        simp only at hsub cp
        have KE : Kept (plF (W.drop (j + 1)) P = PP) := ⟨by rw [← KPP.out, Kdr.out, if_neg (by rw [hd]; intro h; injection h with h1 h2; simp only at h1 h2; omega)]⟩
        clear hd
        generalize fl q.1 = U at *
        generalize fl q.2 = V at *
        generalize fl x = X at *
        generalize fl y = Y at *
        go_wp2
        go_roundw
        case rel => exact ⟨j + 1, P, hlt, by go_num, hPl, KE.out, Kbk.out, Kfx.out⟩
        case measure => simp [intOf]; omega
    · have hii : ¬ (j : Int) + 1 < (W.length : Int) := by omega
      have KE : Kept (P = PP) := ⟨by rw [← hPP, show W.drop j = [W[j]] from by rw [List.drop_eq_getElem_cons hjl, List.drop_of_length_le (by omega)]]; rfl⟩
      have KBf := Kept.mk (KB2.out.trans ((hfx.below (B := w.heap.size) KB2.out.size (fun i hi e => by have := Kgl.out; omega))))
      clear hbk hfx hPP
      go_wp2
      go_ret
      exact ⟨lg, Kgl.out, rfl, by rw [KPe.out, ← KE.out]; exact Kbk.out, KBf.out⟩


/-- What is known of the places when the way has come to p. -/
structure PlI (P : List Int) (p : Pt) : Prop where
  later : ∀ (x : Nat) (v : Int), p.1 ≤ x → P[x]? = some v → v = -1
  within : ∀ (x : Nat) (v : Int), P[x]? = some v → v ≠ -1 → 0 ≤ v ∧ v < (p.2 : Int)
  rise : ∀ (x x' : Nat) (v v' : Int), x' < x → P[x]? = some v → P[x']? = some v' → v ≠ -1 → v' ≠ -1 → v' < v
theorem PlI.step {α : Type} {a b : List α} {P : List Int} {p q : Pt} (h : PlI P p) (hs : StOk a b p q) : PlI (if q = (p.1 + 1, p.2 + 1) then P.set p.1 (p.2 : Int) else P) q := by
  rcases hs with ⟨hd, -⟩ | hd | hd
  · rw [if_pos hd]
    subst hd
    refine ⟨fun x v hx hv => ?_, fun x v hv hn => ?_, fun x x' v v' hx hv hv' hn hn' => ?_⟩
    · rw [List.getElem?_set_ne (by simp only at hx; omega)] at hv
      exact h.later x v (by simp only at hx; omega) hv
    · by_cases e : p.1 = x
      · subst e
        have hl : p.1 < P.length := by have := (List.getElem?_eq_some_iff.1 hv).1; simpa using this
        rw [List.getElem?_set_self hl] at hv
        injection hv with hv
        simp only
        omega
      · rw [List.getElem?_set_ne e] at hv
        have := h.within x v hv hn
        simp only
        omega
    · by_cases e' : p.1 = x'
      · rw [List.getElem?_set_ne (by omega)] at hv
        exact absurd (h.later x v (by omega) hv) hn
      · rw [List.getElem?_set_ne e'] at hv'
        by_cases e : p.1 = x
        · subst e
          have hl : p.1 < P.length := by have := (List.getElem?_eq_some_iff.1 hv).1; simpa using this
          rw [List.getElem?_set_self hl] at hv
          injection hv with hv
          have := h.within x' v' hv' hn'
          omega
        · rw [List.getElem?_set_ne e] at hv
          exact h.rise x x' v v' hx hv hv' hn hn'
  · rw [if_neg (by rw [hd]; intro e; injection e with e1 e2; omega)]
    subst hd
    exact ⟨fun x v hx hv => h.later x v (by simp only at hx; omega) hv, fun x v hv hn => h.within x v hv hn, h.rise⟩
  · rw [if_neg (by rw [hd]; intro e; injection e with e1 e2; omega)]
    subst hd
    exact ⟨fun x v hx hv => h.later x v hx hv, fun x v hv hn => by have := h.within x v hv hn; simp only; omega, h.rise⟩
theorem plF_ok {α : Type} {a b : List α} : ∀ (W : List Pt) (P : List Int) (p : Pt), W.head? = some p → (∀ i p q, W[i]? = some p → W[i + 1]? = some q → StOk a b p q) → PlI P p → ∃ q, W.getLast? = some q ∧ PlI (plF W P) q
  | [], _, _, h, _, _ => by cases h
  | [x], P, p, h, _, hi => by
    simp at h
    subst h
    exact ⟨x, rfl, hi⟩
  | x :: y :: r, P, p, h, hs, hi => by
    simp at h
    subst h
    have h1 := hi.step (hs 0 x y rfl rfl)
    obtain ⟨q, hq, hp⟩ := plF_ok (a := a) (b := b) (y :: r) _ y rfl (fun i p q h1 h2 => hs (i + 1) p q (by simpa using h1) (by simpa using h2)) h1
    exact ⟨q, by rw [List.getLast?_cons_cons]; exact hq, by rw [plF]; exact hp⟩
theorem plP_ok (a b : List ByteArray) : PlI (plP a b) (a.length, b.length) := by
  obtain ⟨hok, -, -⟩ := way_all a b _ a b 0 0 (Nat.le_refl _) rfl rfl (Nat.zero_le _) (Nat.zero_le _)
  obtain ⟨r, hr⟩ := wayP_head a b 0 0
  have h0 : PlI (List.replicate a.length (-1)) (0, 0) := by
    have e : ∀ (x : Nat) (v : Int), (List.replicate a.length (-1 : Int))[x]? = some v → v = -1 := fun x v hv => List.eq_of_mem_replicate (List.mem_of_getElem? hv)
    exact ⟨fun x v _ hv => e x v hv, fun x v hv hn => absurd (e x v hv) hn, fun x x' v v' _ hv _ hn _ => absurd (e x v hv) hn⟩
  obtain ⟨q, hq, hp⟩ := plF_ok (a := a) (b := b) (wayP a b 0 0) (List.replicate a.length (-1)) (0, 0) (by rw [hr]; rfl) hok.steps h0
  rw [hok.last] at hq
  injection hq with hq
  subst hq
  exact hp
theorem plP_len (a b : List ByteArray) : (plP a b).length = a.length := by unfold plP; rw [plF_len]; simp
end Go.Proofs.Ytidpdhnbnecddaa
