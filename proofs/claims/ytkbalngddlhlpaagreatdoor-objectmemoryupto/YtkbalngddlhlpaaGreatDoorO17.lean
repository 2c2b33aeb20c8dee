/-
  rising over any list of entries.
-/
import Derived.Test.YtkbalngddlhlpaaGreatDoorN12
import Derived.Test.YtkbalngddlhlpaaGreatDoorO10B
namespace Go.Proofs.YtkbalngddlhlpaaGreatDoor
open Go.RowKit

def ordE (a b : EnC) : Int := Lib.compareBytes (Nm.okF a.m a.nm).data.toList (Nm.okF b.m b.nm).data.toList
theorem EnC.ent {e : EnC} (h : e.ok) : Nm.Ent e.l.toArray e.m e.nm := ⟨by rw [List.size_toArray]; exact EnC.len h, rfl, rfl⟩
theorem orderE_any {a b : EnC} (ha : a.ok) (hb : b.ok) (hn : a.nm.size ≤ 140737488351232) (gn : b.nm.size ≤ 140737488351232) (w : World) :
    Calls Tryz.prog 93 #[.agg a.l.toArray, .agg b.l.toArray] w fun e w' => e = .returned (.int .i64 (ordE a b)) ∧ Below w.heap.size w w' :=
  Nm.order_any (EnC.ent ha) (EnC.ent hb) hn gn w
set_option maxHeartbeats 1000000 in
set_option maxRecDepth 100000 in
theorem rising_any (v : Value) (es : List EnC) (w : World) (hr : RdE w v es) (hl : es.length ≤ 4096) (hn : ∀ e ∈ es, e.nm.size ≤ 140737488351232) :
    Calls Tryz.prog 58 #[v] w fun e w' => ∃ r : Bool, e = .returned (.bool r) ∧ (r = true ↔ ∀ k (h : k + 1 < es.length), ordE (es[k]'(by omega)) es[k + 1] < 0) ∧ Below w.heap.size w w' := by
  obtain ⟨a, c, rfl, hlc, hok, hrd⟩ := hr
  have KR := Kept.mk hrd
  have KK := Kept.mk hok
  have KN := Kept.mk hn
  clear hrd hok hn
  go_enter Tryz.func58, Tryz.ntmps58
  go_wp2
  go_loopw [3] (fun iv wr => ∃ k : Nat, 1 ≤ k ∧ (k ≤ es.length ∨ k = 1) ∧ iv = .int .i64 k ∧ (∀ j (h : j + 1 < es.length), j + 1 < k → ordE (es[j]'(by omega)) es[j + 1] < 0) ∧ Below w.heap.size w wr) (fun iv _ => es.length - (intOf iv).toNat)
  case atStart => exact ⟨1, Nat.le_refl _, .inr rfl, rfl, fun j h h' => absurd h' (by omega), Below.refl _ _⟩
  case round =>
    obtain ⟨k, hk1, hk, rfl, hall, hbel⟩ := hrel
    have KBr := Kept.mk hbel
    have KA := Kept.mk hall
    clear hall
    by_cases hlt : k < es.length
    · have hki : (k : Int) < (es.length : Int) := by omega
      obtain ⟨j, rfl⟩ : ∃ j, k = j + 1 := ⟨k - 1, by omega⟩
      have hjl : j < es.length := by omega
      have hji : (j : Int) < (es.length : Int) := by omega
      obtain ⟨b, off, rfl, hbl, hrg⟩ := KR.out (by omega)
      have hrow : ∀ i (hi : i < es.length), wr.rangeAt b (off + i * 34) (es[i]'hi).l := fun i hi j u hu => by
        rw [hbel.cell (p := ⟨b, off + i * 34 + j, none⟩) hbl]
        exact hrg i hi j u hu
      have hbr : b < wr.heap.size := Nat.lt_of_lt_of_le hbl hbel.size
      have hR1 : Kept (∀ W, CC wr W → W.rangeAt b (off + j * 34) (es[j]'hjl).l) := ⟨fun W hW i u hu => by
        rw [hW.cell (p := ⟨b, off + j * 34 + i, none⟩) hbr]
        exact hrow j hjl i u hu⟩
      have hR2 : Kept (∀ W, CC wr W → W.rangeAt b (off + (j + 1) * 34) (es[j + 1]'hlt).l) := ⟨fun W hW i u hu => by
        rw [hW.cell (p := ⟨b, off + (j + 1) * 34 + i, none⟩) hbr]
        exact hrow (j + 1) hlt i u hu⟩
      have hoA := KK.out _ (List.getElem_mem hjl)
      have hoB := KK.out _ (List.getElem_mem hlt)
      obtain ⟨O, hO⟩ : ∃ O, ordE (es[j]'hjl) (es[j + 1]'hlt) = O := ⟨_, rfl⟩
      have KO : Kept (∀ W, CC wr W → Calls Tryz.prog 93 #[.agg (es[j]'hjl).l.toArray, .agg (es[j + 1]'hlt).l.toArray] W fun e w' => e = .returned (.int .i64 O) ∧ CC wr w') := ⟨fun W hW => (orderE_any hoA hoB (KN.out _ (List.getElem_mem hjl)) (KN.out _ (List.getElem_mem hlt)) W).mono fun e w' hp => ⟨by rw [hp.1, hO], hW.on hp.2⟩⟩
      have h1 := EnC.len hoA
      have h2 := EnC.len hoB
      have KL : Kept (ordE (es[j]'hjl) (es[j + 1]'hlt) = O) := ⟨hO⟩
      have KI1 : Kept ((Tryz.prog.info? 33).map (·.size) = some (es[j]'hjl).l.length) := ⟨by rw [h1]; kernel_rfl⟩
      have KI2 : Kept ((Tryz.prog.info? 33).map (·.size) = some (es[j + 1]'hlt).l.length) := ⟨by rw [h2]; kernel_rfl⟩
      clear hbel hrow hrg hoA hoB h1 h2
      have e1 : ((j + 1 : Nat) : Int) - 1 = (j : Int) := by omega
      have e2 : IntKind.i64.wrap (j : Int) = (j : Int) := wr64 (by omega) (by omega)
      have e3 : IntKind.i64.wrap (((j + 1 : Nat) : Int) + 1) = ((j + 1 : Nat) : Int) + 1 := wr64 (by omega) (by omega)
      generalize (es[j]'hjl).l = LA at *
      generalize (es[j + 1]'hlt).l = LB at *
      clear hO hbr hbl
      go_upto_region 4 with fail
      refine wp_region_quietC (C := CC wr) (by kernel_rfl) (by kernel_rfl) (Below.refl _ _).drew ?_
      go_big_quiet_step ((intro _; rfl))
      go_big_quiet_step ((intro _; rfl))
      refine BigFrame.wpQuiet_want rfl (fun K hK => quiet_run (v := .int .i64 (j : Int)) (fun W hW => by go_simp; all_goals rfl) (hK _ ?_))
      clear hK K
      simp only [Act.put, List.setIfInBounds_toArray, List.set_cons_zero, List.set_cons_succ]
      refine BigFrame.wpQuiet_want rfl (fun K hK => quiet_run (v := .pointer (some ⟨b, off + j * 34, none⟩)) (fun W hW => by go_simp; all_goals rfl) (hK _ ?_))
      clear hK K
      simp only [Act.put, List.setIfInBounds_toArray, List.set_cons_zero, List.set_cons_succ]
      refine BigFrame.wpQuiet_want rfl (fun K hK => quiet_load_mid 33 _ rfl b (off + j * 34) rfl LA _ hR1.out Tryz.underlying33 rfl KI1.out (hK _ ?_))
      clear hK K
      simp only [Act.put, List.setIfInBounds_toArray, List.set_cons_zero, List.set_cons_succ]
      go_big_quiet_step ((intro _; rfl))
      go_big_quiet_step ((intro _; rfl))
      refine BigFrame.wpQuiet_want rfl (fun K hK => quiet_run (v := .pointer (some ⟨b, off + (j + 1) * 34, none⟩)) (fun W hW => by go_simp; all_goals first | rfl | (intro hneg; exfalso; omega)) (hK _ ?_))
      clear hK K
      simp only [Act.put, List.setIfInBounds_toArray, List.set_cons_zero, List.set_cons_succ]
      refine BigFrame.wpQuiet_want rfl (fun K hK => quiet_load_mid 33 _ rfl b (off + (j + 1) * 34) rfl LB _ hR2.out Tryz.underlying33 rfl KI2.out (hK _ ?_))
      clear hK K
      simp only [Act.put, List.setIfInBounds_toArray, List.set_cons_zero, List.set_cons_succ]
      go_big_quiet_step ((intro hCw; exact KO.out _ hCw))
      refine BigFrame.wpQuiet_want rfl (fun K hK => quiet_run (v := .bool (decide (0 ≤ O))) (fun W hW => by go_simp; all_goals rfl) (hK _ ?_))
      clear hK K
      simp only [Act.put, List.setIfInBounds_toArray, List.set_cons_zero, List.set_cons_succ]
      refine wpQuiet_nil ?_
      intro w3 hw3
      have KB3 := Kept.mk (KBr.out.trans (Below.mono hw3 KBr.out.size))
      clear hw3
      by_cases hge : 0 ≤ O
      · have hd : decide (0 ≤ O) = true := decide_eq_true hge
        go_wp2
        go_ret
        exact ⟨false, rfl, ⟨fun h => (by cases h), fun h => absurd (h j hlt) (by rw [KL.out]; omega)⟩, KB3.out⟩
      · have hd : decide (0 ≤ O) = false := decide_eq_false hge
        go_wp2
        go_roundw
        case rel =>
          refine ⟨j + 1 + 1, by omega, .inl (by omega), by go_num, fun i h h' => ?_, KB3.out⟩
          rcases Nat.lt_or_ge (i + 1) (j + 1) with h2 | h2
          · exact KA.out i h h2
          · obtain rfl : i = j := by omega
            rw [KL.out]; omega
        case measure => simp [intOf]; omega
    · have hki : ¬ (k : Int) < (es.length : Int) := by omega
      clear hbel
      go_wp2
      go_ret
      exact .inr ⟨rfl, fun j h => KA.out j h (by omega), KBr.out⟩


theorem EnC.box (w : World) (e : EnC) : ∃ w1, w.alloc (.cells e.l.toArray 33) = w1 ∧ Below w.heap.size w w1 ∧ w1.cell? ⟨w.heap.size, 0, none⟩ = some (.int .i64 e.m) ∧ w1.cell? ⟨w.heap.size, 1, none⟩ = some (.string e.nm) :=
  ⟨_, rfl, (Below.refl _ _).alloc (Nat.le_refl _) _, alloc_cell _ _ _ _ _ (by simp [EnC.l]), alloc_cell _ _ _ _ _ (by simp [EnC.l])⟩
def IxOk (q : EnC → Bool) (es : List EnC) (r : Int) : Prop := (0 ≤ r ∧ es.any q = true) ∨ (r = -1 ∧ es.any q = false)
theorem any_step (q : EnC → Bool) (es : List EnC) {k : Nat} (h : k < es.length) (h0 : (es.take k).any q = false) (h1 : q (es[k]'h) = false) : (es.take (k + 1)).any q = false := by
  rw [List.take_add_one, List.getElem?_eq_getElem h, List.any_append, h0]
  simp [h1]
def noName (e : EnC) : Bool := !nameF e.nm
def noMode (e : EnC) : Bool := !modF e.m
set_option maxHeartbeats 400000 in
set_option maxRecDepth 100000 in
theorem f1E_any (e : EnC) (w : World) :
    Calls Tryz.prog 54 #[.agg e.l.toArray] w fun x w' => x = .returned (.bool (noName e)) ∧ Below w.heap.size w w' := by
  obtain ⟨w1, hw1, hB1, c0, c1⟩ := EnC.box w e
  have KN := Kept.mk (name_any e.nm w1)
  have KB1 := Kept.mk hB1
  have KQ : Kept (noName e = !nameF e.nm) := ⟨rfl⟩
  generalize e.l.toArray = E at *
  generalize nameF e.nm = q at *
  generalize noName e = q2 at *
  clear hB1
  go_enter Tryz.func54, Tryz.ntmps54
  go_wp2_with fail
  refine Calls.mono KN.out (fun e w2 hp => ?_)
  obtain ⟨rfl, hb⟩ := hp
  have KB2 := Kept.mk (KB1.out.trans (hb.mono KB1.out.size))
  clear hb
  go_wp2
  go_ret
  exact ⟨by rw [KQ.out]; rfl, KB2.out⟩
set_option maxHeartbeats 400000 in
set_option maxRecDepth 100000 in
theorem indexFunc1E (v : Value) (es : List EnC) (w : World) (hr : RdE w v es) (hl : es.length ≤ 4096) :
    Calls Tryz.prog 90 #[v, .func (.func 54) #[] #[]] w fun e w' => ∃ r, e = .returned (.int .i64 r) ∧ IxOk noName es r ∧ Below w.heap.size w w' := by
  obtain ⟨a, c, rfl, hlc, hok, hrd⟩ := hr
  have KR := Kept.mk hrd
  have KK := Kept.mk hok
  clear hrd hok
  go_enter Tryz.func90, Tryz.ntmps90
  go_wp2
  go_loopw [4, 8] (fun _ kv wr => ∃ k : Nat, k ≤ es.length ∧ kv = .int .i64 k ∧ (es.take k).any noName = false ∧ Below w.heap.size w wr) (fun _ kv _ => es.length - (intOf kv).toNat)
  case atStart => exact ⟨0, Nat.zero_le _, rfl, rfl, Below.refl _ _⟩
  case round =>
    obtain ⟨k, hk, rfl, hall, hbel⟩ := hrel
    have KBr := Kept.mk hbel
    have KA := Kept.mk hall
    clear hall
    by_cases hlt : k < es.length
    · have hki : (k : Int) < (es.length : Int) := by omega
      obtain ⟨b, off, rfl, hbl, hrg⟩ := KR.out (by omega)
      have hR : Kept (wr.rangeAt b (off + k * 34) (es[k]'hlt).l) := ⟨fun j u hu => by
        rw [hbel.cell (p := ⟨b, off + k * 34 + j, none⟩) hbl]
        exact hrg k hlt j u hu⟩
      have h34 := EnC.len (KK.out _ (List.getElem_mem hlt))
      have KI : Kept ((Tryz.prog.info? 33).map (·.size) = some (es[k]'hlt).l.length) := ⟨by rw [h34]; kernel_rfl⟩
      obtain ⟨q, hq⟩ : ∃ q, noName (es[k]'hlt) = q := ⟨_, rfl⟩
      have KF := f1E_any (es[k]'hlt) wr
      rw [hq] at KF
      have KF := Kept.mk KF
      have KQ := Kept.mk hq
      clear hbel hrg h34 hq
      generalize (es[k]'hlt).l = L at *
      go_wp2_with (first | (refine wpList_load_mid rfl 33 _ rfl b (off + k * 34) rfl L _ hR.out Tryz.underlying33 rfl KI.out ?_))
      refine Calls.mono KF.out (fun e w1 hp => ?_)
      obtain ⟨rfl, hb⟩ := hp
      have KB := Kept.mk (KBr.out.trans (hb.mono KBr.out.size))
      clear hb KF
      cases q with
      | true =>
        go_wp2
        go_ret
        exact ⟨_, rfl, .inl ⟨by omega, List.any_eq_true.2 ⟨_, List.getElem_mem hlt, KQ.out⟩⟩, KB.out⟩
      | false =>
        go_wp2
        go_roundw
        case rel => exact ⟨k + 1, by omega, rfl, any_step _ es hlt KA.out KQ.out, KB.out⟩
        case measure => simp [intOf]; omega
    · have hki : ¬ (k : Int) < (es.length : Int) := by omega
      have KT : Kept (es.any noName = false) := ⟨by have := KA.out; rwa [List.take_of_length_le (by omega)] at this⟩
      clear hbel
      go_wp2
      go_ret
      exact ⟨_, rfl, .inr ⟨rfl, KT.out⟩, KBr.out⟩
set_option maxHeartbeats 400000 in
set_option maxRecDepth 100000 in
theorem containsFunc1E (v : Value) (es : List EnC) (w : World) (hr : RdE w v es) (hl : es.length ≤ 4096) :
    Calls Tryz.prog 53 #[v, .func (.func 54) #[] #[]] w fun e w' => e = .returned (.bool (es.any noName)) ∧ Below w.heap.size w w' := by
  have K1 := Kept.mk (indexFunc1E v es w hr hl)
  clear hr
  go_enter Tryz.func53, Tryz.ntmps53
  go_wp2_with fail
  refine Calls.mono K1.out (fun e w1 hp => ?_)
  obtain ⟨r, rfl, hx, hb⟩ := hp
  have KB := Kept.mk hb
  clear hb K1
  rcases hx with ⟨h0, h1⟩ | ⟨rfl, h1⟩
  · have KH := Kept.mk h1
    clear h1
    go_wp2
    go_ret
    exact ⟨by rw [KH.out]; simp, KB.out⟩
  · have KH := Kept.mk h1
    clear h1
    go_wp2
    go_ret
    exact ⟨by rw [KH.out]; rfl, KB.out⟩
set_option maxHeartbeats 400000 in
set_option maxRecDepth 100000 in
theorem f2E_any (e : EnC) (w : World) :
    Calls Tryz.prog 56 #[.agg e.l.toArray] w fun x w' => x = .returned (.bool (noMode e)) ∧ Below w.heap.size w w' := by
  obtain ⟨w1, hw1, hB1, c0, c1⟩ := EnC.box w e
  have KN := Kept.mk (mode_any e.m w1)
  have KB1 := Kept.mk hB1
  have KQ : Kept (noMode e = !modF e.m) := ⟨rfl⟩
  generalize e.l.toArray = E at *
  generalize modF e.m = q at *
  generalize noMode e = q2 at *
  clear hB1
  go_enter Tryz.func56, Tryz.ntmps56
  go_wp2_with fail
  refine Calls.mono KN.out (fun e w2 hp => ?_)
  obtain ⟨rfl, hb⟩ := hp
  have KB2 := Kept.mk (KB1.out.trans (hb.mono KB1.out.size))
  clear hb
  go_wp2
  go_ret
  exact ⟨by rw [KQ.out]; rfl, KB2.out⟩
set_option maxHeartbeats 400000 in
set_option maxRecDepth 100000 in
theorem indexFunc2E (v : Value) (es : List EnC) (w : World) (hr : RdE w v es) (hl : es.length ≤ 4096) :
    Calls Tryz.prog 90 #[v, .func (.func 56) #[] #[]] w fun e w' => ∃ r, e = .returned (.int .i64 r) ∧ IxOk noMode es r ∧ Below w.heap.size w w' := by
  obtain ⟨a, c, rfl, hlc, hok, hrd⟩ := hr
  have KR := Kept.mk hrd
  have KK := Kept.mk hok
  clear hrd hok
  go_enter Tryz.func90, Tryz.ntmps90
  go_wp2
  go_loopw [4, 8] (fun _ kv wr => ∃ k : Nat, k ≤ es.length ∧ kv = .int .i64 k ∧ (es.take k).any noMode = false ∧ Below w.heap.size w wr) (fun _ kv _ => es.length - (intOf kv).toNat)
  case atStart => exact ⟨0, Nat.zero_le _, rfl, rfl, Below.refl _ _⟩
  case round =>
    obtain ⟨k, hk, rfl, hall, hbel⟩ := hrel
    have KBr := Kept.mk hbel
    have KA := Kept.mk hall
    clear hall
    by_cases hlt : k < es.length
    · have hki : (k : Int) < (es.length : Int) := by omega
      obtain ⟨b, off, rfl, hbl, hrg⟩ := KR.out (by omega)
      have hR : Kept (wr.rangeAt b (off + k * 34) (es[k]'hlt).l) := ⟨fun j u hu => by
        rw [hbel.cell (p := ⟨b, off + k * 34 + j, none⟩) hbl]
        exact hrg k hlt j u hu⟩
      have h34 := EnC.len (KK.out _ (List.getElem_mem hlt))
      have KI : Kept ((Tryz.prog.info? 33).map (·.size) = some (es[k]'hlt).l.length) := ⟨by rw [h34]; kernel_rfl⟩
      obtain ⟨q, hq⟩ : ∃ q, noMode (es[k]'hlt) = q := ⟨_, rfl⟩
      have KF := f2E_any (es[k]'hlt) wr
      rw [hq] at KF
      have KF := Kept.mk KF
      have KQ := Kept.mk hq
      clear hbel hrg h34 hq
      generalize (es[k]'hlt).l = L at *
      go_wp2_with (first | (refine wpList_load_mid rfl 33 _ rfl b (off + k * 34) rfl L _ hR.out Tryz.underlying33 rfl KI.out ?_))
      refine Calls.mono KF.out (fun e w1 hp => ?_)
      obtain ⟨rfl, hb⟩ := hp
      have KB := Kept.mk (KBr.out.trans (hb.mono KBr.out.size))
      clear hb KF
      cases q with
      | true =>
        go_wp2
        go_ret
        exact ⟨_, rfl, .inl ⟨by omega, List.any_eq_true.2 ⟨_, List.getElem_mem hlt, KQ.out⟩⟩, KB.out⟩
      | false =>
        go_wp2
        go_roundw
        case rel => exact ⟨k + 1, by omega, rfl, any_step _ es hlt KA.out KQ.out, KB.out⟩
        case measure => simp [intOf]; omega
    · have hki : ¬ (k : Int) < (es.length : Int) := by omega
      have KT : Kept (es.any noMode = false) := ⟨by have := KA.out; rwa [List.take_of_length_le (by omega)] at this⟩
      clear hbel
      go_wp2
      go_ret
      exact ⟨_, rfl, .inr ⟨rfl, KT.out⟩, KBr.out⟩
set_option maxHeartbeats 400000 in
set_option maxRecDepth 100000 in
theorem containsFunc2E (v : Value) (es : List EnC) (w : World) (hr : RdE w v es) (hl : es.length ≤ 4096) :
    Calls Tryz.prog 53 #[v, .func (.func 56) #[] #[]] w fun e w' => e = .returned (.bool (es.any noMode)) ∧ Below w.heap.size w w' := by
  have K1 := Kept.mk (indexFunc2E v es w hr hl)
  clear hr
  go_enter Tryz.func53, Tryz.ntmps53
  go_wp2_with fail
  refine Calls.mono K1.out (fun e w1 hp => ?_)
  obtain ⟨r, rfl, hx, hb⟩ := hp
  have KB := Kept.mk hb
  clear hb K1
  rcases hx with ⟨h0, h1⟩ | ⟨rfl, h1⟩
  · have KH := Kept.mk h1
    clear h1
    go_wp2
    go_ret
    exact ⟨by rw [KH.out]; simp, KB.out⟩
  · have KH := Kept.mk h1
    clear h1
    go_wp2
    go_ret
    exact ⟨by rw [KH.out]; rfl, KB.out⟩
end Go.Proofs.YtkbalngddlhlpaaGreatDoor
