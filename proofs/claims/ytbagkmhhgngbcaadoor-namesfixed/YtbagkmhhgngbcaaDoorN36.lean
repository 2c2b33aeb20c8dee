/-
  Pure: paths put together; the walk of NamesParts.
-/
import Derived.Test.YtbagkmhhgngbcaaDoorN35
namespace Go.Proofs.YtbagkmhhgngbcaaDoor
open Go.RowKit

theorem cat_data (a b : ByteArray) : (a ++ b).data.toList = a.data.toList ++ b.data.toList := by simp
theorem path_join (a b : ByteArray) (h : a.size + b.size + 1 ≤ 200) : pathF (a ++ ⟨#[47]⟩ ++ b) = (pathF a && pathF b) := by
  have hsz : (a ++ ⟨#[47]⟩ ++ b).size = a.size + 1 + b.size := by
    rw [Lib.size_eq, cat_data, cat_data, List.length_append, List.length_append, ← Lib.size_eq, ← Lib.size_eq]
    rfl
  have hp : partsB (a ++ ⟨#[47]⟩ ++ b) = partsB a ++ partsB b := by
    rw [parts_of, parts_of, parts_of, cat_data, cat_data, ← List.map_append, ← cutL_app, List.append_assoc]
    rfl
  unfold pathF
  rw [hsz, hp, List.all_append, decide_eq_true (show a.size + 1 + b.size ≤ 200 by omega), decide_eq_true (show a.size ≤ 200 by omega), decide_eq_true (show b.size ≤ 200 by omega)]
  simp
theorem path_name (a : ByteArray) (h : hasF a 47 = false) : pathF a = nameF a := by
  have hc : cutL a.data.toList = [a.data.toList] := cutL_none _ fun c hc hc47 => by
    subst hc47
    unfold hasF at h
    rw [List.contains_iff_mem.2 hc] at h
    cases h
  unfold pathF
  rw [parts_of, hc]
  simp only [List.map_cons, List.map_nil, List.all_cons, List.all_nil, Bool.and_true]
  rw [Lib.mk_data]
  cases e : nameF a with
  | false => simp
  | true =>
    rw [Bool.and_true]
    unfold nameF at e
    simp only [Bool.and_eq_true, decide_eq_true_eq] at e
    exact decide_eq_true (by omega)
theorem ref_parts (a : ByteArray) (h : refF a = true) (hh : (a.toList == headL) = false) : 3 ≤ (partsB a).length := ((ref_doc a hh).1 h).1

set_option maxHeartbeats 4000000 in
set_option maxRecDepth 100000 in
theorem parts_walk (a b : ByteArray) (w : World) (hg : Gl w) (ha : a.size < 4294967281) (hbs : b.size < 4294967281) :
    Calls Tryd.prog 7 #[.string a, .string b] w fun e w' => e = .returned (.bool true) ∧ Below w.heap.size w w' := by
  have KA := Kept.mk (awake_any w hg)
  have KG : Kept (∀ w', Below w.heap.size w w' → Gl w') := ⟨fun w' h => hg.later h⟩
  have Ka : Kept (∀ w', Below w.heap.size w w' → Calls Tryd.prog 12 #[.string a] w' fun e w2 => e = .returned (.bool (pathF a)) ∧ Below w.heap.size w w2) := ⟨fun w' h => (path_any a w' (KG.out w' h)).mono fun e w2 hp => ⟨hp.1, h.trans (hp.2.mono h.size)⟩⟩
  have Kb : Kept (∀ w', Below w.heap.size w w' → Calls Tryd.prog 12 #[.string b] w' fun e w2 => e = .returned (.bool (pathF b)) ∧ Below w.heap.size w w2) := ⟨fun w' h => (path_any b w' (KG.out w' h)).mono fun e w2 hp => ⟨hp.1, h.trans (hp.2.mono h.size)⟩⟩
  have KJ := path_join a b
  obtain ⟨J, hJ⟩ : ∃ J, a ++ ⟨#[47]⟩ ++ b = J := ⟨_, rfl⟩
  rw [hJ] at KJ
  have KJ := Kept.mk KJ
  have Kj : Kept (∀ w', Below w.heap.size w w' → Calls Tryd.prog 12 #[.string J] w' fun e w2 => e = .returned (.bool (pathF J)) ∧ Below w.heap.size w w2) := ⟨fun w' h => (path_any J w' (KG.out w' h)).mono fun e w2 hp => ⟨hp.1, h.trans (hp.2.mono h.size)⟩⟩
  have Kh : Kept (∀ w', Below w.heap.size w w' → Calls Tryd.prog 26 #[.string a, .int .u8 47] w' fun e w2 => e = .returned (.bool (hasF a 47)) ∧ Below w.heap.size w w2) := ⟨fun w' h => (has_any a 47 47 rfl w' (by omega)).mono fun e w2 hp => ⟨hp.1, h.trans (hp.2.mono h.size)⟩⟩
  have KN : Kept (hasF a 47 = false → pathF a = nameF a) := ⟨path_name a⟩
  have Kn : Kept (∀ w', Below w.heap.size w w' → Calls Tryd.prog 10 #[.string a] w' fun e w2 => e = .returned (.bool (nameF a)) ∧ Below w.heap.size w w2) := ⟨fun w' h => (name_any a w').mono fun e w2 hp => ⟨hp.1, h.trans (hp.2.mono h.size)⟩⟩
  have Kr : Kept (∀ w', Below w.heap.size w w' → Calls Tryd.prog 14 #[.string a] w' fun e w2 => e = .returned (.bool (refF a)) ∧ Below w.heap.size w w2) := ⟨fun w' h => (ref_any a w' (KG.out w' h)).mono fun e w2 hp => ⟨hp.1, h.trans (hp.2.mono h.size)⟩⟩
  have KR : Kept (refF a = true → (a.toList == headL) = false → 3 ≤ (partsB a).length) := ⟨ref_parts a⟩
  have Kp : Kept (∀ w', Below w.heap.size w w' → Calls Tryd.prog 27 #[.string a] w' fun e w2 => ∃ v, e = .returned v ∧ OwnS w2 w'.heap.size v (partsB a) ∧ Below w.heap.size w w2) := ⟨fun w' h => (parts_any a w' ha).mono fun e w2 ⟨v, h1, h2, h3⟩ => ⟨v, h1, h2, h.trans (h3.mono h.size)⟩⟩
  have KLe := Kept.mk (partsB_le a)
  have KSz := Kept.mk (And.intro ha hbs)
  unfold headL at KR
  obtain ⟨b0, hb0⟩ : ∃ q, (a.toList == [72, 69, 65, 68]) = q := ⟨_, rfl⟩
  rw [hb0] at KR
  generalize pathF J = qj at *
  generalize pathF a = q1 at *
  generalize pathF b = q2 at *
  generalize hasF a 47 = q3 at *
  generalize nameF a = q4 at *
  generalize refF a = q5 at *
  generalize partsB a = L at *
  clear hg ha hbs
  go_enter Tryd.func7, Tryd.ntmps7
  go_wp2_with fail
  refine Calls.mono KA.out (fun e w0 hp => ?_)
  obtain ⟨rfl, hb⟩ := hp
  have Kw0 := Kept.mk hb
  clear hb KA
  go_wp2_with fail
  refine Calls.mono (Ka.out w0 Kw0.out) (fun e x1 hp => ?_)
  obtain ⟨rfl, hb⟩ := hp
  have Kx1 := Kept.mk hb
  clear hb
  cases q1
  · have hai : (a.size : Int) < 4294967281 := by have := KSz.out; omega
    have hbi : (b.size : Int) < 4294967281 := by have := KSz.out; omega
    by_cases hl : a.size + b.size + 1 ≤ 200
    · have hli : (a.size : Int) + (b.size : Int) + 1 ≤ 200 := by omega
      have hj := KJ.out hl
      subst hj
      clear hl
      go_wp2_with fail
      refine Calls.mono (Kj.out x1 Kx1.out) (fun e x2 hp => ?_)
      obtain ⟨rfl, hb⟩ := hp
      have Kx2 := Kept.mk hb
      clear hb
      go_wp2_with fail
      refine Calls.mono (Kh.out x2 Kx2.out) (fun e x3 hp => ?_)
      obtain ⟨rfl, hb⟩ := hp
      have Kx3 := Kept.mk hb
      clear hb
      cases q3
      · have hq := KN.out rfl
        subst hq
        go_wp2_with fail
        refine Calls.mono (Ka.out x3 Kx3.out) (fun e x4 hp => ?_)
        obtain ⟨rfl, hb⟩ := hp
        have Kx4 := Kept.mk hb
        clear hb
        go_wp2_with fail
        refine Calls.mono (Kn.out x4 Kx4.out) (fun e x5 hp => ?_)
        obtain ⟨rfl, hb⟩ := hp
        have Kx5 := Kept.mk hb
        clear hb
        go_wp2_with fail
        refine Calls.mono (Kr.out x5 Kx5.out) (fun e x6 hp => ?_)
        obtain ⟨rfl, hb⟩ := hp
        have Kx6 := Kept.mk hb
        clear hb
        cases q5
        · go_wp2
          go_ret
          exact ⟨rfl, Kx6.out⟩
        · cases b0
          · have h3 := KR.out rfl rfl
            have h3i : (3 : Int) ≤ (L.length : Int) := by omega
            have hLi : (L.length : Int) ≤ 4294967282 := by have := KSz.out; have := KLe.out; omega
            go_wp2_with fail
            refine Calls.mono (Kp.out x6 Kx6.out) (fun e x7 hp => ?_)
            obtain ⟨vv, rfl, hown, hb⟩ := hp
            obtain ⟨g, cap, rfl, -, -, -⟩ := hown.open (by omega)
            have Kx7 := Kept.mk hb
            clear hb hown
            go_wp2
            go_ret
            exact ⟨rfl, Kx7.out⟩
          · go_wp2
            go_ret
            exact ⟨rfl, Kx6.out⟩
      · go_wp2_with fail
        refine Calls.mono (Kr.out x3 Kx3.out) (fun e x8 hp => ?_)
        obtain ⟨rfl, hb⟩ := hp
        have Kx8 := Kept.mk hb
        clear hb
        cases q5
        · go_wp2
          go_ret
          exact ⟨rfl, Kx8.out⟩
        · cases b0
          · have h3 := KR.out rfl rfl
            have h3i : (3 : Int) ≤ (L.length : Int) := by omega
            have hLi : (L.length : Int) ≤ 4294967282 := by have := KSz.out; have := KLe.out; omega
            go_wp2_with fail
            refine Calls.mono (Kp.out x8 Kx8.out) (fun e x9 hp => ?_)
            obtain ⟨vv, rfl, hown, hb⟩ := hp
            obtain ⟨g, cap, rfl, -, -, -⟩ := hown.open (by omega)
            have Kx9 := Kept.mk hb
            clear hb hown
            go_wp2
            go_ret
            exact ⟨rfl, Kx9.out⟩
          · go_wp2
            go_ret
            exact ⟨rfl, Kx8.out⟩
    · have hli : decide ((a.size : Int) + (b.size : Int) + 1 ≤ 200) = false := by simp; omega
      clear hl
      go_wp2_with fail
      refine Calls.mono (Kh.out x1 Kx1.out) (fun e x10 hp => ?_)
      obtain ⟨rfl, hb⟩ := hp
      have Kx10 := Kept.mk hb
      clear hb
      cases q3
      · have hq := KN.out rfl
        subst hq
        go_wp2_with fail
        refine Calls.mono (Ka.out x10 Kx10.out) (fun e x11 hp => ?_)
        obtain ⟨rfl, hb⟩ := hp
        have Kx11 := Kept.mk hb
        clear hb
        go_wp2_with fail
        refine Calls.mono (Kn.out x11 Kx11.out) (fun e x12 hp => ?_)
        obtain ⟨rfl, hb⟩ := hp
        have Kx12 := Kept.mk hb
        clear hb
        go_wp2_with fail
        refine Calls.mono (Kr.out x12 Kx12.out) (fun e x13 hp => ?_)
        obtain ⟨rfl, hb⟩ := hp
        have Kx13 := Kept.mk hb
        clear hb
        cases q5
        · go_wp2
          go_ret
          exact ⟨rfl, Kx13.out⟩
        · cases b0
          · have h3 := KR.out rfl rfl
            have h3i : (3 : Int) ≤ (L.length : Int) := by omega
            have hLi : (L.length : Int) ≤ 4294967282 := by have := KSz.out; have := KLe.out; omega
            go_wp2_with fail
            refine Calls.mono (Kp.out x13 Kx13.out) (fun e x14 hp => ?_)
            obtain ⟨vv, rfl, hown, hb⟩ := hp
            obtain ⟨g, cap, rfl, -, -, -⟩ := hown.open (by omega)
            have Kx14 := Kept.mk hb
            clear hb hown
            go_wp2
            go_ret
            exact ⟨rfl, Kx14.out⟩
          · go_wp2
            go_ret
            exact ⟨rfl, Kx13.out⟩
      · go_wp2_with fail
        refine Calls.mono (Kr.out x10 Kx10.out) (fun e x15 hp => ?_)
        obtain ⟨rfl, hb⟩ := hp
        have Kx15 := Kept.mk hb
        clear hb
        cases q5
        · go_wp2
          go_ret
          exact ⟨rfl, Kx15.out⟩
        · cases b0
          · have h3 := KR.out rfl rfl
            have h3i : (3 : Int) ≤ (L.length : Int) := by omega
            have hLi : (L.length : Int) ≤ 4294967282 := by have := KSz.out; have := KLe.out; omega
            go_wp2_with fail
            refine Calls.mono (Kp.out x15 Kx15.out) (fun e x16 hp => ?_)
            obtain ⟨vv, rfl, hown, hb⟩ := hp
            obtain ⟨g, cap, rfl, -, -, -⟩ := hown.open (by omega)
            have Kx16 := Kept.mk hb
            clear hb hown
            go_wp2
            go_ret
            exact ⟨rfl, Kx16.out⟩
          · go_wp2
            go_ret
            exact ⟨rfl, Kx15.out⟩
  · go_wp2_with fail
    refine Calls.mono (Kb.out x1 Kx1.out) (fun e x17 hp => ?_)
    obtain ⟨rfl, hb⟩ := hp
    have Kx17 := Kept.mk hb
    clear hb
    have hai : (a.size : Int) < 4294967281 := by have := KSz.out; omega
    have hbi : (b.size : Int) < 4294967281 := by have := KSz.out; omega
    by_cases hl : a.size + b.size + 1 ≤ 200
    · have hli : (a.size : Int) + (b.size : Int) + 1 ≤ 200 := by omega
      have hj := KJ.out hl
      subst hj
      clear hl
      go_wp2_with fail
      refine Calls.mono (Kj.out x17 Kx17.out) (fun e x18 hp => ?_)
      obtain ⟨rfl, hb⟩ := hp
      have Kx18 := Kept.mk hb
      clear hb
      go_wp2_with fail
      refine Calls.mono (Kh.out x18 Kx18.out) (fun e x19 hp => ?_)
      obtain ⟨rfl, hb⟩ := hp
      have Kx19 := Kept.mk hb
      clear hb
      cases q3
      · have hq := KN.out rfl
        subst hq
        go_wp2_with fail
        refine Calls.mono (Ka.out x19 Kx19.out) (fun e x20 hp => ?_)
        obtain ⟨rfl, hb⟩ := hp
        have Kx20 := Kept.mk hb
        clear hb
        go_wp2_with fail
        refine Calls.mono (Kn.out x20 Kx20.out) (fun e x21 hp => ?_)
        obtain ⟨rfl, hb⟩ := hp
        have Kx21 := Kept.mk hb
        clear hb
        go_wp2_with fail
        refine Calls.mono (Kr.out x21 Kx21.out) (fun e x22 hp => ?_)
        obtain ⟨rfl, hb⟩ := hp
        have Kx22 := Kept.mk hb
        clear hb
        cases q5
        · go_wp2
          go_ret
          exact ⟨rfl, Kx22.out⟩
        · cases b0
          · have h3 := KR.out rfl rfl
            have h3i : (3 : Int) ≤ (L.length : Int) := by omega
            have hLi : (L.length : Int) ≤ 4294967282 := by have := KSz.out; have := KLe.out; omega
            go_wp2_with fail
            refine Calls.mono (Kp.out x22 Kx22.out) (fun e x23 hp => ?_)
            obtain ⟨vv, rfl, hown, hb⟩ := hp
            obtain ⟨g, cap, rfl, -, -, -⟩ := hown.open (by omega)
            have Kx23 := Kept.mk hb
            clear hb hown
            go_wp2
            go_ret
            exact ⟨rfl, Kx23.out⟩
          · go_wp2
            go_ret
            exact ⟨rfl, Kx22.out⟩
      · go_wp2_with fail
        refine Calls.mono (Kr.out x19 Kx19.out) (fun e x24 hp => ?_)
        obtain ⟨rfl, hb⟩ := hp
        have Kx24 := Kept.mk hb
        clear hb
        cases q5
        · go_wp2
          go_ret
          exact ⟨rfl, Kx24.out⟩
        · cases b0
          · have h3 := KR.out rfl rfl
            have h3i : (3 : Int) ≤ (L.length : Int) := by omega
            have hLi : (L.length : Int) ≤ 4294967282 := by have := KSz.out; have := KLe.out; omega
            go_wp2_with fail
            refine Calls.mono (Kp.out x24 Kx24.out) (fun e x25 hp => ?_)
            obtain ⟨vv, rfl, hown, hb⟩ := hp
            obtain ⟨g, cap, rfl, -, -, -⟩ := hown.open (by omega)
            have Kx25 := Kept.mk hb
            clear hb hown
            go_wp2
            go_ret
            exact ⟨rfl, Kx25.out⟩
          · go_wp2
            go_ret
            exact ⟨rfl, Kx24.out⟩
    · have hli : decide ((a.size : Int) + (b.size : Int) + 1 ≤ 200) = false := by simp; omega
      clear hl
      go_wp2_with fail
      refine Calls.mono (Kh.out x17 Kx17.out) (fun e x26 hp => ?_)
      obtain ⟨rfl, hb⟩ := hp
      have Kx26 := Kept.mk hb
      clear hb
      cases q3
      · have hq := KN.out rfl
        subst hq
        go_wp2_with fail
        refine Calls.mono (Ka.out x26 Kx26.out) (fun e x27 hp => ?_)
        obtain ⟨rfl, hb⟩ := hp
        have Kx27 := Kept.mk hb
        clear hb
        go_wp2_with fail
        refine Calls.mono (Kn.out x27 Kx27.out) (fun e x28 hp => ?_)
        obtain ⟨rfl, hb⟩ := hp
        have Kx28 := Kept.mk hb
        clear hb
        go_wp2_with fail
        refine Calls.mono (Kr.out x28 Kx28.out) (fun e x29 hp => ?_)
        obtain ⟨rfl, hb⟩ := hp
        have Kx29 := Kept.mk hb
        clear hb
        cases q5
        · go_wp2
          go_ret
          exact ⟨rfl, Kx29.out⟩
        · cases b0
          · have h3 := KR.out rfl rfl
            have h3i : (3 : Int) ≤ (L.length : Int) := by omega
            have hLi : (L.length : Int) ≤ 4294967282 := by have := KSz.out; have := KLe.out; omega
            go_wp2_with fail
            refine Calls.mono (Kp.out x29 Kx29.out) (fun e x30 hp => ?_)
            obtain ⟨vv, rfl, hown, hb⟩ := hp
            obtain ⟨g, cap, rfl, -, -, -⟩ := hown.open (by omega)
            have Kx30 := Kept.mk hb
            clear hb hown
            go_wp2
            go_ret
            exact ⟨rfl, Kx30.out⟩
          · go_wp2
            go_ret
            exact ⟨rfl, Kx29.out⟩
      · go_wp2_with fail
        refine Calls.mono (Kr.out x26 Kx26.out) (fun e x31 hp => ?_)
        obtain ⟨rfl, hb⟩ := hp
        have Kx31 := Kept.mk hb
        clear hb
        cases q5
        · go_wp2
          go_ret
          exact ⟨rfl, Kx31.out⟩
        · cases b0
          · have h3 := KR.out rfl rfl
            have h3i : (3 : Int) ≤ (L.length : Int) := by omega
            have hLi : (L.length : Int) ≤ 4294967282 := by have := KSz.out; have := KLe.out; omega
            go_wp2_with fail
            refine Calls.mono (Kp.out x31 Kx31.out) (fun e x32 hp => ?_)
            obtain ⟨vv, rfl, hown, hb⟩ := hp
            obtain ⟨g, cap, rfl, -, -, -⟩ := hown.open (by omega)
            have Kx32 := Kept.mk hb
            clear hb hown
            go_wp2
            go_ret
            exact ⟨rfl, Kx32.out⟩
          · go_wp2
            go_ret
            exact ⟨rfl, Kx31.out⟩
end Go.Proofs.YtbagkmhhgngbcaaDoor
