/-
  Check's three questions, asked of all slots.
-/
import Derived.Test.YthkaohkondkhgaaDoorI1
import Derived.WalkMore
namespace Go.Proofs.YthkaohkondkhgaaDoor
open Go.RowKit

/-- Is a number of it outside its range? -/
def outF (e : SlC) : Bool := decide (e.st < 0) || decide (3 < e.st) || decide (e.sz < 0) || decide (4294967295 < e.sz) || decide (e.tm < 0) || decide (4294967295 < e.tm)
def unnF (e : SlC) : Bool := !pathF e.pt
def noFl (e : SlC) : Bool := decide (e.md = 16384) || !modF e.md
set_option maxHeartbeats 400000 in
set_option maxRecDepth 100000 in
theorem outside_any {e : SlC} (he : e.ok) (w : World) :
    Calls Tryd.prog 26 #[.agg e.l.toArray] w fun x w' => x = .returned (.bool (outF e)) ∧ Below w.heap.size w w' := by
  obtain ⟨w1, hw1, hB1, -, -, hc⟩ := SlC.box w he
  obtain ⟨c0, c1, c2, c3, c4⟩ := hc w1 (CC.refl _)
  have KB1 := Kept.mk hB1
  have KQ : Kept (outF e = (decide (e.st < 0) || decide (3 < e.st) || decide (e.sz < 0) || decide (4294967295 < e.sz) || decide (e.tm < 0) || decide (4294967295 < e.tm))) := ⟨rfl⟩
  generalize e.l.toArray = E at *
  generalize outF e = q2 at *
  clear hB1 hc he
  by_cases h1 : e.st < 0
  · go_enter Tryd.func26, Tryd.ntmps26
    go_wp2
    go_ret
    exact ⟨by rw [KQ.out]; simp [h1], KB1.out⟩
  · by_cases h2 : 3 < e.st
    · go_enter Tryd.func26, Tryd.ntmps26
      go_wp2
      go_ret
      exact ⟨by rw [KQ.out]; simp [h2], KB1.out⟩
    · by_cases h3 : e.sz < 0
      · go_enter Tryd.func26, Tryd.ntmps26
        go_wp2
        go_ret
        exact ⟨by rw [KQ.out]; simp [h3], KB1.out⟩
      · by_cases h4 : 4294967295 < e.sz
        · go_enter Tryd.func26, Tryd.ntmps26
          go_wp2
          go_ret
          exact ⟨by rw [KQ.out]; simp [h4], KB1.out⟩
        · by_cases h5 : e.tm < 0
          · go_enter Tryd.func26, Tryd.ntmps26
            go_wp2
            go_ret
            exact ⟨by rw [KQ.out]; simp [h5], KB1.out⟩
          · have KA : Kept (¬ e.st < 0 ∧ ¬ 3 < e.st ∧ ¬ e.sz < 0 ∧ ¬ 4294967295 < e.sz ∧ ¬ e.tm < 0) := ⟨h1, h2, h3, h4, h5⟩
            go_enter Tryd.func26, Tryd.ntmps26
            go_wp2
            go_ret
            exact ⟨by rw [KQ.out]; obtain ⟨h1, h2, h3, h4, h5⟩ := KA.out; simp; omega, KB1.out⟩
set_option maxHeartbeats 400000 in
set_option maxRecDepth 100000 in
theorem unnamed_any {e : SlC} (he : e.ok) (w : World) (hg : Gl w) :
    Calls Tryd.prog 27 #[.agg e.l.toArray] w fun x w' => x = .returned (.bool (unnF e)) ∧ Below w.heap.size w w' := by
  obtain ⟨w1, hw1, hB1, -, -, hc⟩ := SlC.box w he
  obtain ⟨c0, c1, c2, c3, c4⟩ := hc w1 (CC.refl _)
  have KN := Kept.mk (path_any e.pt w1 (hg.later hB1))
  have KB1 := Kept.mk hB1
  have KQ : Kept (unnF e = !pathF e.pt) := ⟨rfl⟩
  generalize e.l.toArray = E at *
  generalize pathF e.pt = q at *
  generalize unnF e = q2 at *
  clear hB1 hc he hg
  go_enter Tryd.func27, Tryd.ntmps27
  go_wp2_with fail
  refine Calls.mono KN.out (fun e w2 hp => ?_)
  obtain ⟨rfl, hb⟩ := hp
  have KB2 := Kept.mk (KB1.out.trans (hb.mono KB1.out.size))
  clear hb
  go_wp2
  go_ret
  exact ⟨by rw [KQ.out]; rfl, KB2.out⟩
set_option maxHeartbeats 400000 in
set_option maxRecDepth 100000 in
theorem noFile_any {e : SlC} (he : e.ok) (w : World) :
    Calls Tryd.prog 28 #[.agg e.l.toArray] w fun x w' => x = .returned (.bool (noFl e)) ∧ Below w.heap.size w w' := by
  obtain ⟨w1, hw1, hB1, -, -, hc⟩ := SlC.box w he
  obtain ⟨c0, c1, c2, c3, c4⟩ := hc w1 (CC.refl _)
  have KN := Kept.mk (mode_any e.md w1)
  have KB1 := Kept.mk hB1
  have KQ : Kept (noFl e = (decide (e.md = 16384) || !modF e.md)) := ⟨rfl⟩
  generalize e.l.toArray = E at *
  generalize modF e.md = q at *
  generalize noFl e = q2 at *
  clear hB1 hc he
  by_cases h1 : e.md = 16384
  · go_enter Tryd.func28, Tryd.ntmps28
    go_wp2
    go_ret
    exact ⟨by rw [KQ.out]; simp [h1], KB1.out⟩
  · have KH := Kept.mk h1
    go_enter Tryd.func28, Tryd.ntmps28
    go_wp2_with fail
    refine Calls.mono KN.out (fun e w2 hp => ?_)
    obtain ⟨rfl, hb⟩ := hp
    have KB2 := Kept.mk (KB1.out.trans (hb.mono KB1.out.size))
    clear hb
    go_wp2
    go_ret
    exact ⟨by rw [KQ.out]; simp [KH.out], KB2.out⟩
/-- Is one of the slots so? -/
def IxOk (q : SlC → Bool) (es : List SlC) (r : Int) : Prop := (0 ≤ r ∧ es.any q = true) ∨ (r = -1 ∧ es.any q = false)
theorem any_step (q : SlC → Bool) (es : List SlC) {k : Nat} (h : k < es.length) (h0 : (es.take k).any q = false) (h1 : q (es[k]'h) = false) : (es.take (k + 1)).any q = false := by
  rw [List.take_add_one, List.getElem?_eq_getElem h, List.any_append, h0]
  simp [h1]
set_option maxHeartbeats 400000 in
set_option maxRecDepth 100000 in
theorem indexFunc_outside (v : Value) (es : List SlC) (w : World) (hg : Gl w) (hr : RdZ w v es) (hl : es.length ≤ 4398046511104) :
    Calls Tryd.prog 52 #[v, .func (.func 26) #[] #[]] w fun e w' => ∃ r, e = .returned (.int .i64 r) ∧ IxOk outF es r ∧ Below w.heap.size w w' := by
  obtain ⟨a, c, rfl, hlc, hok, hrd⟩ := hr
  have KR := Kept.mk hrd
  have KK := Kept.mk hok
  have KQ0 : Kept (∀ (e : SlC) (w : World), e.ok → Gl w → Calls Tryd.prog 26 #[.agg e.l.toArray] w fun x w' => x = .returned (.bool (outF e)) ∧ Below w.heap.size w w') := ⟨(fun e w he _ => outside_any he w)⟩
  have KG := Kept.mk hg
  clear hrd hok hg
  go_enter Tryd.func52, Tryd.ntmps52
  go_wp2
  go_loopw [4, 8] (fun _ kv wr => ∃ k : Nat, k ≤ es.length ∧ kv = .int .i64 k ∧ (es.take k).any outF = false ∧ Below w.heap.size w wr) (fun _ kv _ => es.length - (intOf kv).toNat)
  case atStart => exact ⟨0, Nat.zero_le _, rfl, rfl, Below.refl _ _⟩
  case round =>
    obtain ⟨k, hk, rfl, hall, hbel⟩ := hrel
    have KBr := Kept.mk hbel
    have KA := Kept.mk hall
    clear hall
    by_cases hlt : k < es.length
    · have hki : (k : Int) < (es.length : Int) := by omega
      obtain ⟨b, off, rfl, hbl, hrg⟩ := KR.out (by omega)
      have hR : Kept (wr.rangeAt b (off + k * 37) (es[k]'hlt).l) := ⟨fun j u hu => by
        rw [hbel.cell (p := ⟨b, off + k * 37 + j, none⟩) hbl]
        exact hrg k hlt j u hu⟩
      have hko := KK.out _ (List.getElem_mem hlt)
      have KI := Kept.mk (SlC.info hko)
      obtain ⟨q1, hq1⟩ : ∃ q1, outF (es[k]'hlt) = q1 := ⟨_, rfl⟩
      have KF := KQ0.out (es[k]'hlt) wr hko (KG.out.later hbel)
      rw [hq1] at KF
      have KF := Kept.mk KF
      have KQ := Kept.mk hq1
      clear hbel hrg hko hq1
      generalize (es[k]'hlt).l = L at *
      go_wp2_with (first | (refine wpList_load_mid rfl 41 _ rfl b (off + k * 37) rfl L _ hR.out Tryd.underlying41 rfl KI.out ?_))
      refine Calls.mono KF.out (fun e w1 hp => ?_)
      obtain ⟨rfl, hb⟩ := hp
      have KB := Kept.mk (KBr.out.trans (hb.mono KBr.out.size))
      clear hb KF
      cases q1 with
      | true =>
        go_wp2
        go_ret
        exact ⟨_, rfl, .inl ⟨by omega, List.any_eq_true.2 ⟨_, List.getElem_mem hlt, KQ.out⟩⟩, KB.out⟩
      | false =>
        go_wp2
        go_roundw
        case rel => exact ⟨k + 1, by omega, rfl, any_step _ es hlt KA.out KQ.out, KB.out⟩
        case measure => simp [intOf]; omega
    · have hki : ¬ (k : Int) < (es.length : Int) := by omega
      have KT : Kept (es.any outF = false) := ⟨by have := KA.out; rwa [List.take_of_length_le (by omega)] at this⟩
      clear hbel
      go_wp2
      go_ret
      exact ⟨_, rfl, .inr ⟨rfl, KT.out⟩, KBr.out⟩
set_option maxHeartbeats 400000 in
set_option maxRecDepth 100000 in
theorem containsFunc_outside (v : Value) (es : List SlC) (w : World) (hg : Gl w) (hr : RdZ w v es) (hl : es.length ≤ 4398046511104) :
    Calls Tryd.prog 25 #[v, .func (.func 26) #[] #[]] w fun e w' => e = .returned (.bool (es.any outF)) ∧ Below w.heap.size w w' := by
  have K1 := Kept.mk (indexFunc_outside v es w hg hr hl)
  clear hr hg
  go_enter Tryd.func25, Tryd.ntmps25
  go_wp2_with fail
  refine Calls.mono K1.out (fun e w1 hp => ?_)
  obtain ⟨r, rfl, hx, hb⟩ := hp
  have KB := Kept.mk hb
  clear hb K1
  rcases hx with ⟨h0, h1⟩ | ⟨rfl, h1⟩
  · have KH := Kept.mk h1
    clear h1
    go_wp2
    go_ret
    exact ⟨by rw [KH.out]; simp, KB.out⟩
  · have KH := Kept.mk h1
    clear h1
    go_wp2
    go_ret
    exact ⟨by rw [KH.out]; rfl, KB.out⟩
set_option maxHeartbeats 400000 in
set_option maxRecDepth 100000 in
theorem indexFunc_unnamed (v : Value) (es : List SlC) (w : World) (hg : Gl w) (hr : RdZ w v es) (hl : es.length ≤ 4398046511104) :
    Calls Tryd.prog 52 #[v, .func (.func 27) #[] #[]] w fun e w' => ∃ r, e = .returned (.int .i64 r) ∧ IxOk unnF es r ∧ Below w.heap.size w w' := by
  obtain ⟨a, c, rfl, hlc, hok, hrd⟩ := hr
  have KR := Kept.mk hrd
  have KK := Kept.mk hok
  have KQ0 : Kept (∀ (e : SlC) (w : World), e.ok → Gl w → Calls Tryd.prog 27 #[.agg e.l.toArray] w fun x w' => x = .returned (.bool (unnF e)) ∧ Below w.heap.size w w') := ⟨(fun e w he hg => unnamed_any he w hg)⟩
  have KG := Kept.mk hg
  clear hrd hok hg
  go_enter Tryd.func52, Tryd.ntmps52
  go_wp2
  go_loopw [4, 8] (fun _ kv wr => ∃ k : Nat, k ≤ es.length ∧ kv = .int .i64 k ∧ (es.take k).any unnF = false ∧ Below w.heap.size w wr) (fun _ kv _ => es.length - (intOf kv).toNat)
  case atStart => exact ⟨0, Nat.zero_le _, rfl, rfl, Below.refl _ _⟩
  case round =>
    obtain ⟨k, hk, rfl, hall, hbel⟩ := hrel
    have KBr := Kept.mk hbel
    have KA := Kept.mk hall
    clear hall
    by_cases hlt : k < es.length
    · have hki : (k : Int) < (es.length : Int) := by omega
      obtain ⟨b, off, rfl, hbl, hrg⟩ := KR.out (by omega)
      have hR : Kept (wr.rangeAt b (off + k * 37) (es[k]'hlt).l) := ⟨fun j u hu => by
        rw [hbel.cell (p := ⟨b, off + k * 37 + j, none⟩) hbl]
        exact hrg k hlt j u hu⟩
      have hko := KK.out _ (List.getElem_mem hlt)
      have KI := Kept.mk (SlC.info hko)
      obtain ⟨q1, hq1⟩ : ∃ q1, unnF (es[k]'hlt) = q1 := ⟨_, rfl⟩
      have KF := KQ0.out (es[k]'hlt) wr hko (KG.out.later hbel)
      rw [hq1] at KF
      have KF := Kept.mk KF
      have KQ := Kept.mk hq1
      clear hbel hrg hko hq1
      generalize (es[k]'hlt).l = L at *
      go_wp2_with (first | (refine wpList_load_mid rfl 41 _ rfl b (off + k * 37) rfl L _ hR.out Tryd.underlying41 rfl KI.out ?_))
      refine Calls.mono KF.out (fun e w1 hp => ?_)
      obtain ⟨rfl, hb⟩ := hp
      have KB := Kept.mk (KBr.out.trans (hb.mono KBr.out.size))
      clear hb KF
      cases q1 with
      | true =>
        go_wp2
        go_ret
        exact ⟨_, rfl, .inl ⟨by omega, List.any_eq_true.2 ⟨_, List.getElem_mem hlt, KQ.out⟩⟩, KB.out⟩
      | false =>
        go_wp2
        go_roundw
        case rel => exact ⟨k + 1, by omega, rfl, any_step _ es hlt KA.out KQ.out, KB.out⟩
        case measure => simp [intOf]; omega
    · have hki : ¬ (k : Int) < (es.length : Int) := by omega
      have KT : Kept (es.any unnF = false) := ⟨by have := KA.out; rwa [List.take_of_length_le (by omega)] at this⟩
      clear hbel
      go_wp2
      go_ret
      exact ⟨_, rfl, .inr ⟨rfl, KT.out⟩, KBr.out⟩
set_option maxHeartbeats 400000 in
set_option maxRecDepth 100000 in
theorem containsFunc_unnamed (v : Value) (es : List SlC) (w : World) (hg : Gl w) (hr : RdZ w v es) (hl : es.length ≤ 4398046511104) :
    Calls Tryd.prog 25 #[v, .func (.func 27) #[] #[]] w fun e w' => e = .returned (.bool (es.any unnF)) ∧ Below w.heap.size w w' := by
  have K1 := Kept.mk (indexFunc_unnamed v es w hg hr hl)
  clear hr hg
  go_enter Tryd.func25, Tryd.ntmps25
  go_wp2_with fail
  refine Calls.mono K1.out (fun e w1 hp => ?_)
  obtain ⟨r, rfl, hx, hb⟩ := hp
  have KB := Kept.mk hb
  clear hb K1
  rcases hx with ⟨h0, h1⟩ | ⟨rfl, h1⟩
  · have KH := Kept.mk h1
    clear h1
    go_wp2
    go_ret
    exact ⟨by rw [KH.out]; simp, KB.out⟩
  · have KH := Kept.mk h1
    clear h1
    go_wp2
    go_ret
    exact ⟨by rw [KH.out]; rfl, KB.out⟩
set_option maxHeartbeats 400000 in
set_option maxRecDepth 100000 in
theorem indexFunc_noFile (v : Value) (es : List SlC) (w : World) (hg : Gl w) (hr : RdZ w v es) (hl : es.length ≤ 4398046511104) :
    Calls Tryd.prog 52 #[v, .func (.func 28) #[] #[]] w fun e w' => ∃ r, e = .returned (.int .i64 r) ∧ IxOk noFl es r ∧ Below w.heap.size w w' := by
  obtain ⟨a, c, rfl, hlc, hok, hrd⟩ := hr
  have KR := Kept.mk hrd
  have KK := Kept.mk hok
  have KQ0 : Kept (∀ (e : SlC) (w : World), e.ok → Gl w → Calls Tryd.prog 28 #[.agg e.l.toArray] w fun x w' => x = .returned (.bool (noFl e)) ∧ Below w.heap.size w w') := ⟨(fun e w he _ => noFile_any he w)⟩
  have KG := Kept.mk hg
  clear hrd hok hg
  go_enter Tryd.func52, Tryd.ntmps52
  go_wp2
  go_loopw [4, 8] (fun _ kv wr => ∃ k : Nat, k ≤ es.length ∧ kv = .int .i64 k ∧ (es.take k).any noFl = false ∧ Below w.heap.size w wr) (fun _ kv _ => es.length - (intOf kv).toNat)
  case atStart => exact ⟨0, Nat.zero_le _, rfl, rfl, Below.refl _ _⟩
  case round =>
    obtain ⟨k, hk, rfl, hall, hbel⟩ := hrel
    have KBr := Kept.mk hbel
    have KA := Kept.mk hall
    clear hall
    by_cases hlt : k < es.length
    · have hki : (k : Int) < (es.length : Int) := by omega
      obtain ⟨b, off, rfl, hbl, hrg⟩ := KR.out (by omega)
      have hR : Kept (wr.rangeAt b (off + k * 37) (es[k]'hlt).l) := ⟨fun j u hu => by
        rw [hbel.cell (p := ⟨b, off + k * 37 + j, none⟩) hbl]
        exact hrg k hlt j u hu⟩
      have hko := KK.out _ (List.getElem_mem hlt)
      have KI := Kept.mk (SlC.info hko)
      obtain ⟨q1, hq1⟩ : ∃ q1, noFl (es[k]'hlt) = q1 := ⟨_, rfl⟩
      have KF := KQ0.out (es[k]'hlt) wr hko (KG.out.later hbel)
      rw [hq1] at KF
      have KF := Kept.mk KF
      have KQ := Kept.mk hq1
      clear hbel hrg hko hq1
      generalize (es[k]'hlt).l = L at *
      go_wp2_with (first | (refine wpList_load_mid rfl 41 _ rfl b (off + k * 37) rfl L _ hR.out Tryd.underlying41 rfl KI.out ?_))
      refine Calls.mono KF.out (fun e w1 hp => ?_)
      obtain ⟨rfl, hb⟩ := hp
      have KB := Kept.mk (KBr.out.trans (hb.mono KBr.out.size))
      clear hb KF
      cases q1 with
      | true =>
        go_wp2
        go_ret
        exact ⟨_, rfl, .inl ⟨by omega, List.any_eq_true.2 ⟨_, List.getElem_mem hlt, KQ.out⟩⟩, KB.out⟩
      | false =>
        go_wp2
        go_roundw
        case rel => exact ⟨k + 1, by omega, rfl, any_step _ es hlt KA.out KQ.out, KB.out⟩
        case measure => simp [intOf]; omega
    · have hki : ¬ (k : Int) < (es.length : Int) := by omega
      have KT : Kept (es.any noFl = false) := ⟨by have := KA.out; rwa [List.take_of_length_le (by omega)] at this⟩
      clear hbel
      go_wp2
      go_ret
      exact ⟨_, rfl, .inr ⟨rfl, KT.out⟩, KBr.out⟩
set_option maxHeartbeats 400000 in
set_option maxRecDepth 100000 in
theorem containsFunc_noFile (v : Value) (es : List SlC) (w : World) (hg : Gl w) (hr : RdZ w v es) (hl : es.length ≤ 4398046511104) :
    Calls Tryd.prog 25 #[v, .func (.func 28) #[] #[]] w fun e w' => e = .returned (.bool (es.any noFl)) ∧ Below w.heap.size w w' := by
  have K1 := Kept.mk (indexFunc_noFile v es w hg hr hl)
  clear hr hg
  go_enter Tryd.func25, Tryd.ntmps25
  go_wp2_with fail
  refine Calls.mono K1.out (fun e w1 hp => ?_)
  obtain ⟨r, rfl, hx, hb⟩ := hp
  have KB := Kept.mk hb
  clear hb K1
  rcases hx with ⟨h0, h1⟩ | ⟨rfl, h1⟩
  · have KH := Kept.mk h1
    clear h1
    go_wp2
    go_ret
    exact ⟨by rw [KH.out]; simp, KB.out⟩
  · have KH := Kept.mk h1
    clear h1
    go_wp2
    go_ret
    exact ⟨by rw [KH.out]; rfl, KB.out⟩
end Go.Proofs.YthkaohkondkhgaaDoor
