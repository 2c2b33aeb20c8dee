/-
  Walks: the document's joined and closed.
-/
import Derived.Test.YtidpdhnbnecddaaM12
import Derived.Test.YtidpdhnbnecddaaLX5
namespace Go.Proofs.Ytidpdhnbnecddaa
open Go.RowKit

theorem sn_append (a b : List Int) : strOfNums a ++ strOfNums b = strOfNums (a ++ b) := by
  apply ByteArray.ext
  simp [strOfNums]
theorem sn_nms (s : ByteArray) : strOfNums (nms s) = s := by
  apply ByteArray.ext
  unfold strOfNums nms
  simp [Function.comp_def]
theorem sn_size (a : List Int) : (strOfNums a).size = a.length := by simp [strOfNums, ByteArray.size]
set_option maxHeartbeats 1000000 in
set_option maxRecDepth 100000 in
theorem joined_any (u : Value) (L : List ByteArray) (w : World) (hu : RdS w u L) (hL : L.length ≤ 1000000) (hl : (jnd L).length ≤ 70368744177664) :
    Calls Try.prog 45 #[u] w fun e w' => e = .returned (.string (strOfNums (jnd L))) ∧ w' = w := by
  have KU := Kept.mk hu
  obtain ⟨pa, pc, rfl⟩ := hu.form
  have KC : Kept (∀ k s, L[k]? = some s → ∃ b off, pa = some ⟨b, off, none⟩ ∧ w.cell? ⟨b, off + k, none⟩ = some (.string s)) := ⟨fun k s hs => by
    obtain ⟨p', c', he, -, hr⟩ := KU.out
    have h0 : 0 < (L.map Value.string).length := by rw [List.length_map]; have := (List.getElem?_eq_some_iff.1 hs).1; omega
    obtain ⟨b, off, hp, -, hrr⟩ := hr h0
    injection he with e1 e2 e3
    exact ⟨b, off, by rw [e1, hp], hrr k _ (by rw [List.getElem?_map, hs]; rfl)⟩⟩
  have Kl := Kept.mk hl
  clear hu hl
  go_enter Try.func45, Try.ntmps45
  go_upto_region 3 with fail
  go_loopw [3, 8] (fun sv iv wr => ∃ k : Nat, k ≤ L.length ∧ iv = .int .i64 k ∧ sv = .string (strOfNums (jnd (L.take k))) ∧ wr = w) (fun _ iv _ => L.length - (intOf iv).toNat)
  case atStart => exact ⟨0, Nat.zero_le _, rfl, rfl, rfl⟩
  case round =>
    obtain ⟨k, hk, rfl, rfl, rfl⟩ := hrel
    by_cases hkn : k < L.length
    · obtain ⟨s, hs⟩ : ∃ s, L[k]? = some s := ⟨_, List.getElem?_eq_getElem hkn⟩
      obtain ⟨b, off, rfl, hcell⟩ := KC.out k s hs
      have hki : (k : Int) < (L.length : Int) := by omega
      have n0 : (0 : Int) ≤ (k : Int) := by omega
      have e1 : IntKind.i64.wrap ((k : Int) + 1) = (k : Int) + 1 := wr64 (by omega) (by omega)
      have hcat : strOfNums (jnd (L.take k)) ++ s = strOfNums (jnd (L.take (k + 1))) := by rw [jnd_take hs, ← sn_append, sn_nms]
      have hsz : (strOfNums (jnd (L.take k))).size + s.size ≤ 9223372036854775807 := by
        have h1 := jnd_le L (k + 1)
        rw [jnd_take hs, List.length_append, nms_length] at h1
        rw [sn_size]
        have := Kl.out
        omega
      have hadd := fun W => run_string_add_sum (P := Try.prog) W _ _ hsz
      rw [hcat] at hadd
      generalize strOfNums (jnd (L.take k)) = cur at *
      generalize hnx : strOfNums (jnd (L.take (k + 1))) = nx at *
      have Knx := Kept.mk hnx
      clear hcat hsz hs hnx
      go_wp2
      go_roundw
      case rel => exact ⟨k + 1, hkn, by go_num, by rw [Knx.out], trivial⟩
      case measure => simp [intOf]; omega
    · obtain rfl : k = L.length := by omega
      have hki : ¬ (L.length : Int) < (L.length : Int) := by omega
      rw [List.take_length]
      go_wp2
      go_ret
      exact ⟨rfl, rfl⟩
theorem sn_last (t : List Int) (z : Int) (hz : 0 ≤ z ∧ z < 256) (n : Int) (hn : n = (t.length : Int)) (W : World) : (Instr.index 9 (.string (strOfNums (t ++ [z]))) (.int .i64 n)).run Try.prog W = .ok (.int .u8 z) W := by
  subst hn
  rw [run_index_string W 9 _ .i64 _ Try.underlying9]
  rw [dif_pos (by rw [sn_size, List.length_append, List.length_singleton]; omega)]
  have e : (strOfNums (t ++ [z]))[((t.length : Nat) : Int).toNat]'(by rw [sn_size, List.length_append, List.length_singleton]; simp) = UInt8.ofNat z.toNat := by
    simp [strOfNums, ByteArray.getElem_eq_getElem_data]
  rw [e]
  have e2 : ((UInt8.ofNat z.toNat).toNat : Int) = z := by rw [UInt8.toNat_ofNat']; omega
  rw [e2]
/-- Lines, the last of which ends with a line feed. -/
def clsd (L : List ByteArray) : List Int := if jnd L = [] then [] else endd (jnd L)
set_option maxHeartbeats 1000000 in
set_option maxRecDepth 100000 in
theorem closed_any (u : Value) (L : List ByteArray) (w : World) (hu : RdS w u L) (hL : L.length ≤ 1000000) (hl : (jnd L).length ≤ 70368744177664) :
    Calls Try.prog 46 #[u] w fun e w' => e = .returned (.string (strOfNums (clsd L))) ∧ w' = w := by
  have KU := Kept.mk hu
  obtain ⟨pa, pc, rfl⟩ := hu.form
  have KC : Kept (∀ k s, L[k]? = some s → ∃ b off, pa = some ⟨b, off, none⟩ ∧ w.cell? ⟨b, off + k, none⟩ = some (.string s)) := ⟨fun k s hs => by
    obtain ⟨p', c', he, -, hr⟩ := KU.out
    have h0 : 0 < (L.map Value.string).length := by rw [List.length_map]; have := (List.getElem?_eq_some_iff.1 hs).1; omega
    obtain ⟨b, off, hp, -, hrr⟩ := hr h0
    injection he with e1 e2 e3
    exact ⟨b, off, by rw [e1, hp], hrr k _ (by rw [List.getElem?_map, hs]; rfl)⟩⟩
  have Kl := Kept.mk hl
  clear hu hl
  go_enter Try.func46, Try.ntmps46
  go_upto_region 3 with fail
  go_loopw [3, 8] (fun sv iv wr => ∃ k : Nat, k ≤ L.length ∧ iv = .int .i64 k ∧ sv = .string (strOfNums (jnd (L.take k))) ∧ wr = w) (fun _ iv _ => L.length - (intOf iv).toNat)
  case atStart => exact ⟨0, Nat.zero_le _, rfl, rfl, rfl⟩
  case round =>
    obtain ⟨k, hk, rfl, rfl, rfl⟩ := hrel
    by_cases hkn : k < L.length
    · obtain ⟨s, hs⟩ : ∃ s, L[k]? = some s := ⟨_, List.getElem?_eq_getElem hkn⟩
      obtain ⟨b, off, rfl, hcell⟩ := KC.out k s hs
      have hki : (k : Int) < (L.length : Int) := by omega
      have n0 : (0 : Int) ≤ (k : Int) := by omega
      have e1 : IntKind.i64.wrap ((k : Int) + 1) = (k : Int) + 1 := wr64 (by omega) (by omega)
      have hcat : strOfNums (jnd (L.take k)) ++ s = strOfNums (jnd (L.take (k + 1))) := by rw [jnd_take hs, ← sn_append, sn_nms]
      have hsz : (strOfNums (jnd (L.take k))).size + s.size ≤ 9223372036854775807 := by
        have h1 := jnd_le L (k + 1)
        rw [jnd_take hs, List.length_append, nms_length] at h1
        rw [sn_size]
        have := Kl.out
        omega
      have hadd := fun W => run_string_add_sum (P := Try.prog) W _ _ hsz
      rw [hcat] at hadd
      generalize strOfNums (jnd (L.take k)) = cur at *
      generalize hnx : strOfNums (jnd (L.take (k + 1))) = nx at *
      have Knx := Kept.mk hnx
      clear hcat hsz hs hnx
      go_wp2
      go_roundw
      case rel => exact ⟨k + 1, hkn, by go_num, by rw [Knx.out], trivial⟩
      case measure => simp [intOf]; omega
    · obtain rfl : k = L.length := by omega
      have hki : ¬ (L.length : Int) < (L.length : Int) := by omega
      rw [List.take_length]
      by_cases h0 : jnd L = []
      · have Ke : Kept (clsd L = []) := ⟨by unfold clsd; rw [if_pos h0]⟩
        rw [h0]
        have hz : strOfNums [] = ⟨#[]⟩ := rfl
        have he : (strOfNums []).toList = [] := by rw [Lib.toList_data]; rfl
        generalize strOfNums [] = S0 at *
        have Kz := Kept.mk hz
        clear hz
        go_wp2
        go_ret
        exact ⟨by rw [Ke.out]; show _ = Ending.returned (.string ⟨#[]⟩); rw [← Kz.out]; rfl, rfl⟩
      · have Ke : Kept (clsd L = endd (jnd L)) := ⟨by unfold clsd; rw [if_neg h0]⟩
        obtain ⟨t, z, hT⟩ : ∃ t z, jnd L = t ++ [z] := by
          rcases List.eq_nil_or_concat (jnd L) with h | ⟨t, z, h⟩
          · exact absurd h h0
          · exact ⟨t, z, by rw [h, List.concat_eq_append]⟩
        have hzb : 0 ≤ z ∧ z < 256 := jnd_all L z (by rw [hT]; simp)
        have hll := Kl.out
        have KT := Kept.mk hT
        rw [hT] at hll ⊢
        have hsz : (strOfNums (t ++ [z])).size = t.length + 1 := by rw [sn_size, List.length_append, List.length_singleton]
        have hne : (strOfNums (t ++ [z])).data.toList ≠ [] := by simp [strOfNums]
        have he1 : ¬ (strOfNums (t ++ [z])).toList = [] := by rw [Lib.toList_data]; exact hne
        have he2 : (strOfNums (t ++ [z])).toList.isEmpty = false := by rw [Lib.toList_data]; simpa using hne
        have hix := fun W => sn_last t z hzb (((strOfNums (t ++ [z])).size : Int) - 1) (by rw [hsz]; omega) W
        have hwr : IntKind.i64.wrap (((strOfNums (t ++ [z])).size : Int) - 1) = ((strOfNums (t ++ [z])).size : Int) - 1 := wr64 (by omega) (by rw [hsz]; simp at hll; omega)
        by_cases hz : z = 10
        · subst hz
          have Kf : Kept (clsd L = t ++ [10]) := ⟨by rw [Ke.out, KT.out]; unfold endd; rw [if_pos (by simp)]⟩
          have hixw := hix wr
          clear hll hT h0 hsz hne hix
          generalize hS : strOfNums (t ++ [10]) = S0 at *
          have KS := Kept.mk hS
          clear hS
          go_wp2
          go_ret
          exact ⟨by rw [Kf.out, KS.out]; rfl, rfl⟩
        · have Kf : Kept (clsd L = (t ++ [z]) ++ [10]) := ⟨by rw [Ke.out, KT.out]; unfold endd; rw [if_neg (by simp; exact hz)]⟩
          have hadd : ∀ W, (Op.stringOp .add (strOfNums (t ++ [z])) ⟨#[10]⟩).run Try.prog W = .ok (.string (strOfNums ((t ++ [z]) ++ [10]))) W := fun W => by
            have e : strOfNums ((t ++ [z]) ++ [10]) = strOfNums (t ++ [z]) ++ (⟨#[10]⟩ : ByteArray) := (sn_append _ [10]).symm
            rw [e]
            exact run_string_add_sum (P := Try.prog) W _ _ (by rw [hsz, show (⟨#[10]⟩ : ByteArray).size = 1 from rfl]; simp at hll; omega)
          have hixw := hix wr
          clear hll hT h0 hsz hne hix
          generalize strOfNums (t ++ [z]) = S0 at *
          generalize hS : strOfNums ((t ++ [z]) ++ [10]) = S1 at *
          have KS := Kept.mk hS
          clear hS
          go_wp2
          go_ret
          exact ⟨by rw [Kf.out, KS.out]; rfl, rfl⟩


set_option maxHeartbeats 2000000 in
set_option maxRecDepth 100000 in
theorem stays_any (v u : Value) (a b : List ByteArray) (w : World) (hv : RdS w v a) (hu : RdS w u b) (la : a.length ≤ 1000) (lb : b.length ≤ 1000) :
    Calls Try.prog 36 #[v, u] w fun e w' => ∃ g, w.heap.size ≤ g ∧ e = .returned (.slice (some ⟨g, 0, none⟩) a.length a.length) ∧ Bk w' g 3 (cellsK .i64 (plP a b)) ∧ Below w.heap.size w w' := by
  obtain ⟨i0, z0, hi, hz, hsz, hbt, hzc⟩ := info64
  have KV := Kept.mk hv
  have KU := Kept.mk hu
  obtain ⟨pa, pc, rfl⟩ := hv.form
  obtain ⟨qa, qc, rfl⟩ := hu.form
  have Kb1 : Kept (i0.bytes * a.length ≤ 281474976710656) := ⟨by rw [hbt]; omega⟩
  have Kb2 : Kept (a.length ≤ maxLen) := ⟨by unfold maxLen; omega⟩
  clear hv hu
  go_enter Try.func36, Try.ntmps36
  go_upto_region 3 with (at_make; refine wpList_make_lc _ rfl _ _ 62 rfl 3 i0 z0 Try.underlying62 hi hz hsz .i64 .i64 (a.length : Int) (a.length : Int) a.length a.length rfl rfl rfl rfl (Nat.le_refl _) Kb1.out Kb2.out ?_; intro w0 cs0 hcs hbk hbl; have Kcs := Kept.mk hcs; have KK2 := Kept.mk hbk; have KB2 := Kept.mk hbl; clear hcs hbk hbl)
  go_loopw [14] (fun iv wr => ∃ (k : Nat) (cs : List Value), k ≤ a.length ∧ iv = .int .i64 k ∧ cs.length = a.length ∧ cs.take k = List.replicate k gone ∧ Bk wr w.heap.size 3 cs ∧ Below w.heap.size w wr) (fun iv _ => a.length - (intOf iv).toNat)
  case atStart => exact ⟨0, cs0, Nat.zero_le _, rfl, Kcs.out, rfl, KK2.out, KB2.out⟩
  case round =>
    clear Kcs KK2 KB2
    obtain ⟨k, cs, hk, rfl, hcl, htk, hbk, hbl⟩ := hrel
    have Kbk := Kept.mk hbk
    have Kbl := Kept.mk hbl
    by_cases hlt : k < a.length
    · have hki : (k : Int) < (a.length : Int) := by omega
      have n0 : (0 : Int) ≤ (k : Int) := by omega
      have e1 : IntKind.i64.wrap ((k : Int) + 1) = (k : Int) + 1 := wr64 (by omega) (by omega)
      have cc := hbk.cell k cs[k] (List.getElem?_eq_getElem (by omega))
      have cf := hbk.frozen k
      have KT : Kept ((cs.set k gone).take (k + 1) = List.replicate (k + 1) gone) := ⟨by
        rw [List.take_add_one, List.getElem?_set_self (by omega), List.take_set_of_le (Nat.le_refl _), htk, Option.toList_some, List.replicate_succ']⟩
      generalize cs[k] = old at *
      clear hbk hbl htk
      go_wp2
      go_roundw
      case rel => exact ⟨k + 1, cs.set k gone, hlt, by go_num, by rw [List.length_set]; exact hcl, KT.out, Kbk.out.set k _, Kbl.out.setCell (p := ⟨w.heap.size, k, none⟩) (Nat.le_refl _) _⟩
      case measure => simp [intOf]; omega
    · obtain rfl : k = a.length := by omega
      have hki : ¬ (a.length : Int) < (a.length : Int) := by omega
      have Kb3 : Kept (Bk wr w.heap.size 3 (cellsK .i64 (List.replicate a.length (-1)))) := ⟨by rw [cellsK_gone, ← htk, List.take_of_length_le (by omega)]; exact hbk⟩
      have K2 := Kept.mk (docWay_any _ _ a b wr (KV.out.later Kbl.out (Nat.le_refl _)) (KU.out.later Kbl.out (Nat.le_refl _)) la lb)
      clear hbk hbl htk Kbk
      go_wp2_with fail
      refine Calls.mono K2.out (fun e w2 hp => ?_)
      obtain ⟨hB2, v2, rfl, ho⟩ := hp
      obtain ⟨hok, -, hlen⟩ := way_all a b _ a b 0 0 (Nat.le_refl _) rfl rfl (Nat.zero_le _) (Nat.zero_le _)
      obtain ⟨r0, hr0⟩ := wayP_head a b 0 0
      have hne : wayP a b 0 0 ≠ [] := by rw [hr0]; simp
      have hpos : 0 < (wayP a b 0 0).length := by rw [hr0]; simp
      obtain ⟨g, cap, hv2, hgb, hcell⟩ := ho.open hne
      subst hv2
      have KB2 := Kept.mk (Kbl.out.trans (hB2.mono Kbl.out.size))
      have Kb4 : Kept (Bk w2 w.heap.size 3 (cellsK .i64 (List.replicate a.length (-1)))) := ⟨Kb3.out.far (hB2.block _ Kb3.out.lt)⟩
      have Kng : Kept (g ≠ w.heap.size) := ⟨by have := Kb3.out.lt; omega⟩
      have Kcell : Kept (∀ wr, Fx (fun k => k = w.heap.size) w2 wr → ∀ j (q : Pt), (wayP a b 0 0)[j]? = some q → wr.cell? ⟨g, j, none⟩ = some (.complex .f64 (fl q.1) (fl q.2))) := ⟨fun wr hx j q hq => by
        have h := hcell w2 (Below.refl _ _) j q hq
        rw [World.cell?_of_block (w := w2) (a := ⟨g, j, none⟩) (hx.block g (World.block_lt_of_cell? _ _ h) Kng.out)]
        exact h⟩
      have KP : Kept (plP a b = plF (wayP a b 0 0) (List.replicate a.length (-1))) := ⟨rfl⟩
      have Kok := Kept.mk hok
      clear K2 ho hok hcell hne hgb hB2 hr0 KV KU Kb3 Kbl Kb1 hki hcl hi hz hsz hbt hzc
      generalize wayP a b 0 0 = W at *
      generalize hPe : plP a b = PP at *
      have KPe := Kept.mk hPe
      clear hPe
      generalize hP0 : List.replicate a.length (-1 : Int) = P0 at *
      have Kl0 : Kept (P0.length = a.length) := ⟨by rw [← hP0]; simp⟩
      clear hP0
      generalize hlg : w.heap.size = lg at *
      go_upto_region 9 with fail
      go_loopw [8] (fun iv wr => ∃ (j : Nat) (P : List Int), j < W.length ∧ iv = .int .i64 ((j : Int) + 1) ∧ P.length = a.length ∧ plF (W.drop j) P = PP ∧ Bk wr lg 3 (cellsK .i64 P) ∧ Fx (fun k => k = lg) w2 wr) (fun iv _ => W.length + 1 - (intOf iv).toNat)
      case atStart => exact ⟨0, P0, hpos, rfl, Kl0.out, KP.out.symm, Kb4.out, Fx.refl _ _⟩
      case round =>
        rename_i wr
        obtain ⟨j, P, hjl, rfl, hPl, hPP, hbk, hfx⟩ := hrel
        have Kbk := Kept.mk hbk
        have Kfx := Kept.mk hfx
        by_cases hlt : j + 1 < W.length
        · have hii : (j : Int) + 1 < (W.length : Int) := by omega
          have n0 : (0 : Int) ≤ (j : Int) := by omega
          have n1 : (j : Int) < (W.length : Int) := by omega
          have n2 : (0 : Int) ≤ (j : Int) + 1 := by omega
          have e0 : IntKind.i64.wrap ((j : Int) + 1 - 1) = (j : Int) := by rw [show (j : Int) + 1 - 1 = (j : Int) by omega]; exact wr64 (by omega) (by omega)
          have e1 : IntKind.i64.wrap ((j : Int) + 1 + 1) = (j : Int) + 1 + 1 := wr64 (by omega) (by omega)
          have e2 : ((j : Int) + 1).toNat = j + 1 := by omega
          have e3 : IntKind.i64.wrap (j : Int) = (j : Int) := wr64 (by omega) (by omega)
          obtain ⟨p, hp⟩ : ∃ p, W[j]? = some p := ⟨_, List.getElem?_eq_getElem (by omega)⟩
          obtain ⟨q, hq⟩ : ∃ q, W[j + 1]? = some q := ⟨_, List.getElem?_eq_getElem hlt⟩
          have hsk := Kok.out.steps j p q hp hq
          obtain ⟨p1, p2⟩ := Kok.out.small p (List.mem_of_getElem? hp)
          obtain ⟨q1, q2⟩ := Kok.out.small q (List.mem_of_getElem? hq)
          obtain ⟨x, y⟩ := p
          simp only at p1 p2
          have cp := Kcell.out wr hfx j (x, y) hp
          have cq := Kcell.out wr hfx (j + 1) q hq
          have Kdr := Kept.mk (plF_drop hp hq P)
          have KPP := Kept.mk hPP
          have hcx := fun W' => c_int (x := x) (by omega) W'
          have hcy := fun W' => c_int (x := y) (by omega) W'
          have x0 : (0 : Int) ≤ (x : Int) := by omega
          clear hp hq hPP hbk hfx
          rcases hsk with ⟨hd, s, hsa, hsb⟩ | hd | hd
          · have hsub := fun W' => c_sub (p := (x, y)) (q := q) (by simp; omega) (by simp; omega) (.inl ⟨hd, rfl, rfl⟩) W'
            simp only at hsub cp
            have hxl : x < a.length := by rw [hd] at q1 q2; simp only at q1 q2; omega
            have hxi : (x : Int) < (a.length : Int) := by omega
            have hcl : (cellsK .i64 P)[x]? = some (.int .i64 (P.getD x 0)) := by
              have h1 : x < P.length := by omega
              simp [cellsK, List.getD, List.getElem?_eq_getElem h1]
            have ccx := Kbk.out.cell x _ hcl
            have cfx := Kbk.out.frozen x
            have KE : Kept (plF (W.drop (j + 1)) (P.set x (y : Int)) = PP) := ⟨by rw [← KPP.out, Kdr.out, if_pos hd]⟩
            clear hcl hd
            generalize P.getD x 0 = old at *
            generalize fl q.1 = U at *
            generalize fl q.2 = V at *
            generalize fl x = X at *
            generalize fl y = Y at *
            clear q1 q2 p1 p2
            go_upto_region 11 with fail
            go_quiet (fail)
            go_upto_region 12 with fail
            refine wp_region_last _ 16 (by kernel_rfl) (by kernel_rfl) rfl rfl ?_
            simp only [List.take_succ_cons, List.take_zero]
            repeat (first | go_big_quiet_step (fail) | quiet_step (fail))
            refine wpQuiet_nil ?_
            intro m
            go_wp2
            go_roundw
            case rel => exact ⟨j + 1, P.set x (y : Int), hlt, by go_num, by rw [List.length_set]; exact hPl, KE.out, by rw [cellsK_set]; exact Bk.set (show Bk _ lg _ _ from Kbk.out) x _, (Kfx.out.drewN _).trans (Fx.setCell _ _ _ _) (fun i _ e => e)⟩
            case measure => simp [intOf]; omega
          · have hsub := fun W' => c_sub (p := (x, y)) (q := q) (by simp; omega) (by simp; omega) (.inr (.inl ⟨hd, rfl, rfl⟩)) W'
            simp only at hsub cp
            have KE : Kept (plF (W.drop (j + 1)) P = PP) := ⟨by rw [← KPP.out, Kdr.out, if_neg (by rw [hd]; intro h; injection h with h1 h2; simp only at h1 h2; omega)]⟩
            clear hd hcx hcy
            generalize fl q.1 = U at *
            generalize fl q.2 = V at *
            generalize fl x = X at *
            generalize fl y = Y at *
            clear q1 q2 p1 p2
            go_upto_region 11 with fail
            go_quiet (fail)
            generalize hwq : World.drewN wr _ = wq
            have Kbq : Kept (Bk wq lg 3 (cellsK .i64 P)) := ⟨by rw [← hwq]; exact Kbk.out⟩
            have Kfq : Kept (Fx (fun k => k = lg) w2 wq) := ⟨by rw [← hwq]; exact Kfx.out.drewN _⟩
            clear hwq
            go_wp2
            go_roundw
            case rel => exact ⟨j + 1, P, hlt, by go_num, hPl, KE.out, Kbq.out, Kfq.out⟩
            case measure => simp [intOf]; omega
          · have hsub := fun W' => c_sub (p := (x, y)) (q := q) (by simp; omega) (by simp; omega) (.inr (.inr ⟨hd, rfl, rfl⟩)) W'
            simp only at hsub cp
            have KE : Kept (plF (W.drop (j + 1)) P = PP) := ⟨by rw [← KPP.out, Kdr.out, if_neg (by rw [hd]; intro h; injection h with h1 h2; simp only at h1 h2; omega)]⟩
            clear hd hcx hcy
            generalize fl q.1 = U at *
            generalize fl q.2 = V at *
            generalize fl x = X at *
            generalize fl y = Y at *
            clear q1 q2 p1 p2
            go_upto_region 11 with fail
            go_quiet (fail)
            generalize hwq : World.drewN wr _ = wq
            have Kbq : Kept (Bk wq lg 3 (cellsK .i64 P)) := ⟨by rw [← hwq]; exact Kbk.out⟩
            have Kfq : Kept (Fx (fun k => k = lg) w2 wq) := ⟨by rw [← hwq]; exact Kfx.out.drewN _⟩
            clear hwq
            go_wp2
            go_roundw
            case rel => exact ⟨j + 1, P, hlt, by go_num, hPl, KE.out, Kbq.out, Kfq.out⟩
            case measure => simp [intOf]; omega
        · have hii : ¬ (j : Int) + 1 < (W.length : Int) := by omega
          have KE : Kept (P = PP) := ⟨by rw [← hPP, show W.drop j = [W[j]] from by rw [List.drop_eq_getElem_cons hjl, List.drop_of_length_le (by omega)]]; rfl⟩
          have KBf := Kept.mk (KB2.out.trans ((hfx.below (B := lg) (by rw [← hlg]; exact KB2.out.size) (fun i hi e => by omega))))
          have Klg := Kept.mk hlg
          clear hbk hfx hPP hlg
          go_wp2
          go_ret
          exact ⟨lg, by rw [Klg.out]; exact Nat.le_refl _, rfl, by rw [KPe.out, ← KE.out]; exact Kbk.out, by rw [Klg.out]; exact KBf.out⟩


/-- A text of too many bytes or lines. -/
def bigT (x : List Int) : Bool := decide (1048576 < x.length) || decide (1000 < (lnS x).length)
def badL (l : ByteArray) (c : Bool) : Bool := decide (100 < l.size) || c
def rfE (R : List (Value × List Int)) (l0 l1 : ByteArray) (c0 c1 : Bool) : Int := if R.any (fun r => bigT r.2) then 2 else if badL l0 c0 then 3 else if badL l1 c1 then 3 else 0
/-- What strings.ContainsAny says of a label. -/
def HasC (l : ByteArray) (c : Bool) : Prop := l.size ≤ 100 → ∀ W, Calls Try.prog 31 #[.string l, .string ⟨#[10, 0]⟩] W fun e w' => e = .returned (.bool c) ∧ Below W.heap.size W w'
theorem any_take {R : List (Value × List Int)} {k : Nat} {r : Value × List Int} (h : (R.take k).any (fun r => bigT r.2) = false) (hr : R[k]? = some r) (hb : bigT r.2 = false) : (R.take (k + 1)).any (fun r => bigT r.2) = false := by
  rw [List.take_add_one, hr, Option.toList_some, List.any_append, h]
  simp [hb]
theorem any_at {R : List (Value × List Int)} {k : Nat} {r : Value × List Int} (hr : R[k]? = some r) (hb : bigT r.2 = true) : R.any (fun r => bigT r.2) = true := by
  rw [List.any_eq_true]
  exact ⟨r, List.mem_of_getElem? hr, hb⟩
set_option maxRecDepth 100000 in
theorem idx0 (l0 l1 : ByteArray) (W : World) : (Instr.index 23 (.agg #[.string l0, .string l1]) (.int .i64 0)).run Try.prog W = .ok (.string l0) W := by
  first
    | kernel_rfl
    | (simp [Instr.index, run_underlying Try.underlying23, asIntOf, part]; done)
set_option maxRecDepth 100000 in
theorem idx1 (l0 l1 : ByteArray) (W : World) : (Instr.index 23 (.agg #[.string l0, .string l1]) (.int .i64 1)).run Try.prog W = .ok (.string l1) W := by
  first
    | kernel_rfl
    | (simp [Instr.index, run_underlying Try.underlying23, asIntOf, part]; done)
set_option maxHeartbeats 1000000 in
set_option maxRecDepth 100000 in
theorem refuses_any (l0 l1 : ByteArray) (c0 c1 : Bool) (tb : Nat) (R : List (Value × List Int)) (w : World) (h3 : R.length = 3)
    (hc : ∀ k r, R[k]? = some r → w.cell? ⟨tb, k, none⟩ = some r.1 ∧ Rd .u8 anyB w r.1 r.2 ∧ AllB r.2) (g0 : HasC l0 c0) (g1 : HasC l1 c1) :
    Calls Try.prog 20 #[.agg #[.string l0, .string l1], .slice (some ⟨tb, 0, none⟩) 3 3] w fun e w' => e = .returned (.int .i64 (rfE R l0 l1 c0 c1)) ∧ Below w.heap.size w w' := by
  have KC := Kept.mk hc
  have K0 := Kept.mk g0
  have K1 := Kept.mk g1
  have KBa := Kept.mk ((Below.refl w.heap.size w).alloc (Nat.le_refl _) (.cells #[.string l0, .string l1] 23))
  obtain ⟨b0, b1⟩ := box2 (w := w) (x := .string l0) (y := .string l1) (T := 23)
  have KX : Kept (∀ W, Below (w.alloc (.cells #[.string l0, .string l1] 23)).heap.size (w.alloc (.cells #[.string l0, .string l1] 23)) W → W.cell? ⟨w.heap.size, 0, none⟩ = some (.string l0) ∧ W.cell? ⟨w.heap.size, 1, none⟩ = some (.string l1)) := ⟨fun W hW => by
    refine ⟨?_, ?_⟩
    · rw [hW.cell (World.block_lt_of_cell? _ _ b0)]; exact b0
    · rw [hW.cell (World.block_lt_of_cell? _ _ b1)]; exact b1⟩
  clear hc g0 g1 b0 b1
  go_enter Try.func20, Try.ntmps20
  go_upto_region 2 with fail
  obtain ⟨w0, hw0⟩ : ∃ w0, w.alloc (.cells #[.string l0, .string l1] 23) = w0 := ⟨_, rfl⟩
  rw [hw0] at KBa KX ⊢
  clear hw0
  go_loopw [11] (fun iv wr => ∃ k : Nat, k ≤ 3 ∧ iv = .int .i64 k ∧ (R.take k).any (fun r => bigT r.2) = false ∧ Below w0.heap.size w0 wr) (fun iv _ => 3 - (intOf iv).toNat)
  case atStart => exact ⟨0, by omega, rfl, rfl, Below.refl _ _⟩
  case round =>
    obtain ⟨k, hk, rfl, hany, hbw⟩ := hrel
    have Kany := Kept.mk hany
    have Kbw := Kept.mk hbw
    have KBw := Kept.mk (KBa.out.trans (hbw.mono KBa.out.size))
    by_cases hlt : k < 3
    · obtain ⟨r, hr⟩ : ∃ r, R[k]? = some r := ⟨_, List.getElem?_eq_getElem (by omega)⟩
      have Kr := Kept.mk hr
      obtain ⟨hcell, hrd, hall⟩ := KC.out k r hr
      have hcw := KBw.out.cell (World.block_lt_of_cell? _ _ hcell)
      rw [hcell] at hcw
      have Krd := Kept.mk (hrd.later KBw.out (Nat.le_refl _))
      have Kall := Kept.mk hall
      obtain ⟨v, xs⟩ := r
      simp only at hcw
      obtain ⟨a, c, hv, -⟩ := hrd.form
      simp only at hv
      subst hv
      have hki : (k : Int) < 3 := by omega
      have n0 : (0 : Int) ≤ (k : Int) := by omega
      have e1 : IntKind.i64.wrap ((k : Int) + 1) = (k : Int) + 1 := wr64 (by omega) (by omega)
      clear hcell hrd hall hr hany hbw
      by_cases hx : 1048576 < xs.length
      · have hxi : (1048576 : Int) < (xs.length : Int) := by omega
        have KE : Kept (rfE R l0 l1 c0 c1 = 2) := ⟨by unfold rfE; rw [if_pos (any_at Kr.out (by simp [bigT, hx]))]⟩
        go_wp2
        go_ret
        exact ⟨by rw [KE.out]; rfl, KBw.out⟩
      · have hxi : ¬ (1048576 : Int) < (xs.length : Int) := by omega
        have K2 := Kept.mk (lines_any _ xs wr Krd.out Kall.out (by omega))
        go_wp2_with fail
        refine Calls.mono K2.out (fun e w2 hp => ?_)
        obtain ⟨v2, rfl, ho, hb2⟩ := hp
        obtain ⟨p2, c2, hv2⟩ := ho.form
        subst hv2
        have Kbw2 := Kept.mk (Kbw.out.trans (hb2.mono Kbw.out.size))
        have KBw2 := Kept.mk (KBw.out.trans (hb2.mono KBw.out.size))
        clear K2 ho hb2
        by_cases hy : 1000 < (lnS xs).length
        · have hyi : (1000 : Int) < ((lnS xs).length : Int) := by omega
          have KE : Kept (rfE R l0 l1 c0 c1 = 2) := ⟨by unfold rfE; rw [if_pos (any_at Kr.out (by simp [bigT, hy]))]⟩
          go_wp2
          go_ret
          exact ⟨by rw [KE.out]; rfl, KBw2.out⟩
        · have hyi : ¬ (1000 : Int) < ((lnS xs).length : Int) := by omega
          have KN := Kept.mk (any_take Kany.out Kr.out (by simp [bigT]; omega))
          go_wp2
          go_roundw
          case rel => exact ⟨k + 1, hlt, by go_num, KN.out, Kbw2.out⟩
          case measure => simp [intOf]; omega
    · obtain rfl : k = 3 := by omega
      have KA : Kept (R.any (fun r => bigT r.2) = false) := ⟨by rw [← Kany.out, List.take_of_length_le (by omega)]⟩
      obtain ⟨x0, x1⟩ := KX.out wr hbw
      clear hany hbw Kany KC
      rw [show ((3 : Nat) : Int) = 3 from rfl]
      go_upto_region 8 with fail
      go_loopw [26] (fun iv wq => ∃ k : Nat, k ≤ 2 ∧ iv = .int .i64 k ∧ (1 ≤ k → badL l0 c0 = false) ∧ (2 ≤ k → badL l1 c1 = false) ∧ Below w.heap.size w wq) (fun iv _ => 2 - (intOf iv).toNat)
      case atStart => exact ⟨0, by omega, rfl, fun h => by omega, fun h => by omega, KBw.out⟩
      case round =>
        clear x0 x1
        obtain ⟨k, hk, rfl, hb0, hb1, hbq⟩ := hrel
        have KBq := Kept.mk hbq
        clear hbq
        rcases (show k = 0 ∨ k = 1 ∨ k = 2 by omega) with rfl | rfl | rfl
        · have ix := idx0 l0 l1 wr
          by_cases hx : 100 < l0.size
          · have hxi : (100 : Int) < (l0.size : Int) := by omega
            have KE : Kept (rfE R l0 l1 c0 c1 = 3) := ⟨by unfold rfE; rw [if_neg (by rw [KA.out]; simp), if_pos (by unfold badL; simp [hx])]⟩
            go_wp2
            go_ret
            exact ⟨by rw [KE.out]; rfl, KBq.out⟩
          · have hxi : ¬ (100 : Int) < (l0.size : Int) := by omega
            have K2 := Kept.mk (K0.out (by omega) wr)
            go_wp2_with fail
            refine Calls.mono K2.out (fun e w2 hp => ?_)
            obtain ⟨rfl, hb2⟩ := hp
            have KB2 := Kept.mk (KBq.out.trans (hb2.mono KBq.out.size))
            clear K2 hb2
            by_cases hcc : c0 = true
            · have KE : Kept (rfE R l0 l1 c0 c1 = 3) := ⟨by unfold rfE; rw [if_neg (by rw [KA.out]; simp), if_pos (by unfold badL; simp [hcc])]⟩
              rw [hcc]
              go_wp2
              go_ret
              exact ⟨by rw [KE.out]; rfl, KB2.out⟩
            · have hcf : c0 = false := by simpa using hcc
              have KN : Kept (badL l0 c0 = false) := ⟨by unfold badL; simp [hcf, hx]⟩
              rw [hcf]
              go_wp2
              go_roundw
              case rel => exact ⟨1, by omega, by go_num, fun _ => KN.out, fun h => by omega, KB2.out⟩
              case measure => simp [intOf]
        · have ix := idx1 l0 l1 wr
          by_cases hx : 100 < l1.size
          · have hxi : (100 : Int) < (l1.size : Int) := by omega
            have KE : Kept (rfE R l0 l1 c0 c1 = 3) := ⟨by unfold rfE; rw [if_neg (by rw [KA.out]; simp), if_neg (by rw [hb0 (by omega)]; simp), if_pos (by unfold badL; simp [hx])]⟩
            go_wp2
            go_ret
            exact ⟨by rw [KE.out]; rfl, KBq.out⟩
          · have hxi : ¬ (100 : Int) < (l1.size : Int) := by omega
            have K2 := Kept.mk (K1.out (by omega) wr)
            go_wp2_with fail
            refine Calls.mono K2.out (fun e w2 hp => ?_)
            obtain ⟨rfl, hb2⟩ := hp
            have KB2 := Kept.mk (KBq.out.trans (hb2.mono KBq.out.size))
            clear K2 hb2
            by_cases hcc : c1 = true
            · have KE : Kept (rfE R l0 l1 c0 c1 = 3) := ⟨by unfold rfE; rw [if_neg (by rw [KA.out]; simp), if_neg (by rw [hb0 (by omega)]; simp), if_pos (by unfold badL; simp [hcc])]⟩
              rw [hcc]
              go_wp2
              go_ret
              exact ⟨by rw [KE.out]; rfl, KB2.out⟩
            · have hcf : c1 = false := by simpa using hcc
              have KN : Kept (badL l1 c1 = false) := ⟨by unfold badL; simp [hcf, hx]⟩
              rw [hcf]
              go_wp2
              go_roundw
              case rel => exact ⟨2, by omega, by go_num, fun _ => hb0 (by omega), fun _ => KN.out, KB2.out⟩
              case measure => simp [intOf]
        · have KE : Kept (rfE R l0 l1 c0 c1 = 0) := ⟨by unfold rfE; rw [if_neg (by rw [KA.out]; simp), if_neg (by rw [hb0 (by omega)]; simp), if_neg (by rw [hb1 (by omega)]; simp)]⟩
          go_wp2
          go_ret
          exact ⟨by rw [KE.out]; rfl, KBq.out⟩
end Go.Proofs.Ytidpdhnbnecddaa
