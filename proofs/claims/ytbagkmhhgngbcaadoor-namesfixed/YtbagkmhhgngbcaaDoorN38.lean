/-
  The walk of NamesFixed.
-/
import Derived.Test.YtbagkmhhgngbcaaDoorN37
namespace Go.Proofs.YtbagkmhhgngbcaaDoor
open Go.RowKit

theorem box_list (w : World) (L : List ByteArray) : ∃ w1, w.alloc (.cells (L.map Value.string).toArray 9) = w1 ∧ Below w.heap.size w w1 ∧ w1.heap[w.heap.size]? = some (.cells (L.map Value.string).toArray 9) :=
  ⟨_, rfl, (Below.refl _ _).alloc (Nat.le_refl _) _, heap_alloc_new w _⟩
theorem cell_list {w : World} {b k : Nat} {L : List ByteArray} (h : w.heap[b]? = some (.cells (L.map Value.string).toArray 9)) (hk : k < L.length) : w.cell? ⟨b, k, none⟩ = some (.string (L[k]'hk)) := by
  unfold World.cell?
  simp only [h]
  simp [hk]

theorem wp_buildE {o : Oper} {a : Act} {w : World} {K : Act → World → Prop} {Q : Exit → Act → World → Prop} (m : Int) (nm : ByteArray) (ho : o.op = .build 38 #[(0, .const (.int .i64 m)), (1, .const (.string nm))])
    (E : Array Value) (hE : Tryd.prog.built 38 [(0, .int .i64 m), (1, .string nm)] = some E) (h : K (a.put o.dst (.agg E)) w) : o.wp Tryd.prog a w K Q := by
  have e : ((#[(0, Operand.const (.int .i64 m)), (1, Operand.const (.string nm))] : Array (Nat × Operand)).map fun (i, x) => (i, a.eval x)).toList = [(0, Value.int .i64 m), (1, Value.string nm)] := by simp [Act.eval]
  refine wp_build _ _ ho ?_ ?_
  · rw [e, hE]; rfl
  · rw [e, hE]; exact h
theorem built_ok {m : Int} {nm : ByteArray} (h : (Tryd.prog.built 38 [(0, .int .i64 m), (1, .string nm)]).isSome = true) (h1 : ((Tryd.prog.built 38 [(0, .int .i64 m), (1, .string nm)]).getD #[]).size = 34)
    (h2 : ((Tryd.prog.built 38 [(0, .int .i64 m), (1, .string nm)]).getD #[])[0]? = some (.int .i64 m)) (h3 : ((Tryd.prog.built 38 [(0, .int .i64 m), (1, .string nm)]).getD #[])[1]? = some (.string nm)) (h4 : ((Tryd.prog.built 38 [(0, .int .i64 m), (1, .string nm)]).getD #[]).all (·.oneCell') = true) :
    ∃ E, Tryd.prog.built 38 [(0, .int .i64 m), (1, .string nm)] = some E ∧ Ent E m nm ∧ E.all (·.oneCell') = true := by
  obtain ⟨E, hE⟩ := Option.isSome_iff_exists.1 h
  rw [hE] at h1 h2 h3 h4
  exact ⟨E, hE, ⟨h1, h2, h3⟩, h4⟩
set_option maxRecDepth 100000 in
theorem built_T : ∃ E, Tryd.prog.built 38 [(0, .int .i64 16384), (1, .string ⟨#[97]⟩)] = some E ∧ Ent E 16384 ⟨#[97]⟩ ∧ E.all (·.oneCell') = true := built_ok (by kernel_rfl) (by kernel_rfl) (by kernel_rfl) (by kernel_rfl) (by kernel_rfl)
set_option maxRecDepth 100000 in
theorem built_B : ∃ E, Tryd.prog.built 38 [(0, .int .i64 33188), (1, .string ⟨#[97, 46, 98]⟩)] = some E ∧ Ent E 33188 ⟨#[97, 46, 98]⟩ ∧ E.all (·.oneCell') = true := built_ok (by kernel_rfl) (by kernel_rfl) (by kernel_rfl) (by kernel_rfl) (by kernel_rfl)
set_option maxRecDepth 100000 in
theorem built_A : ∃ E, Tryd.prog.built 38 [(0, .int .i64 33188), (1, .string ⟨#[97]⟩)] = some E ∧ Ent E 33188 ⟨#[97]⟩ ∧ E.all (·.oneCell') = true := built_ok (by kernel_rfl) (by kernel_rfl) (by kernel_rfl) (by kernel_rfl) (by kernel_rfl)
set_option maxRecDepth 100000 in
theorem cmp_TB : Lib.compareBytes (okF 16384 ⟨#[97]⟩).data.toList (okF 33188 ⟨#[97, 46, 98]⟩).data.toList = 1 := by kernel_rfl
set_option maxRecDepth 100000 in
theorem cmp_AT : Lib.compareBytes (okF 33188 ⟨#[97]⟩).data.toList (okF 16384 ⟨#[97]⟩).data.toList = -1 := by kernel_rfl
theorem info_E : (Tryd.prog.info? 38).map (·.size) = some 34 := by kernel_rfl

set_option maxHeartbeats 4000000 in
set_option maxRecDepth 100000 in
theorem fixed_walk (w : World) (hg : Gl w) : Calls Tryd.prog 8 #[] w fun e w' => e = .returned (.bool true) ∧ Below w.heap.size w w' := by
  have KA := Kept.mk (awake_any w hg)
  have KG : Kept (∀ w', Below w.heap.size w w' → Gl w') := ⟨fun w' h => hg.later h⟩
  have KN : Kept (∀ (p : ByteArray) w', Below w.heap.size w w' → Calls Tryd.prog 10 #[.string p] w' fun e w2 => e = .returned (.bool (nameF p)) ∧ Below w'.heap.size w' w2) := ⟨fun p w' h => name_any p w'⟩
  have KP : Kept (∀ (p : ByteArray) w', Below w.heap.size w w' → Calls Tryd.prog 12 #[.string p] w' fun e w2 => e = .returned (.bool (pathF p)) ∧ Below w'.heap.size w' w2) := ⟨fun p w' h => path_any p w' (KG.out w' h)⟩
  have KR : Kept (∀ (p : ByteArray) w', Below w.heap.size w w' → Calls Tryd.prog 14 #[.string p] w' fun e w2 => e = .returned (.bool (refF p)) ∧ Below w'.heap.size w' w2) := ⟨fun p w' h => ref_any p w' (KG.out w' h)⟩
  clear hg
  go_enter Tryd.func8, Tryd.ntmps8
  go_wp2_with fail
  refine Calls.mono KA.out (fun e w0 hp => ?_)
  obtain ⟨rfl, hb⟩ := hp
  have KB0 := Kept.mk hb
  clear hb KA
  go_wp2
  go_loopw [1, 25] (fun lv iv wr => ∃ k : Nat, k ≤ 100 ∧ iv = .int .i64 k ∧ lv = .string (longB k) ∧ wr = w0) (fun _ iv _ => 100 - (intOf iv).toNat)
  case atStart => exact ⟨0, by omega, rfl, rfl, rfl⟩
  case round =>
    obtain ⟨k, hk, rfl, rfl, rfl⟩ := hrel
    by_cases hlt : k < 100
    · have hki : (k : Int) < 100 := by omega
      have hcat := longB_succ k
      have hPz : (longB k).size ≤ 100 := by unfold longB; show (List.replicate k (97 : UInt8)).toArray.size ≤ 100; simp; omega
      generalize longB k = P at *
      generalize hQ : longB (k + 1) = Q at *
      have KQ := Kept.mk hQ
      clear hQ
      go_wp2
      go_roundw
      case rel => exact ⟨k + 1, by omega, rfl, by rw [KQ.out], trivial⟩
      case measure => simp [intOf]; omega
    · have hk100 : k = 100 := by omega
      subst hk100
      obtain ⟨lg, hlg⟩ : ∃ lg, longB 100 = lg := ⟨_, rfl⟩
      have F1 := fx1_all
      have F2 := fx2_all
      have F3 := fx3_all
      have F5 := fx_p
      rw [hlg] at F1 F2 F3 F5
      have KF1 := Kept.mk F1
      have KF2 := Kept.mk F2
      have KF3 := Kept.mk F3
      have KF5 := Kept.mk F5
      have hlz : lg.size = 100 := by rw [← hlg]; rfl
      have KW0 := Kept.mk KB0.out
      rw [hlg, show ((100 : Nat) : Int) = 100 from rfl]
      clear hlg hlt hk F1 F2 F3 F5
      generalize wr = y0 at *
      go_wp2
      obtain ⟨x1, hx1, hB1, hc1⟩ := box_list y0 (fx1 lg)
      have hx1' : y0.alloc (.cells #[.string ⟨#[97, 32, 98]⟩, .string ⟨#[46, 46, 46]⟩, .string ⟨#[46, 103, 105, 116, 120]⟩, .string (lg), .string ⟨#[255]⟩] 9) = x1 := hx1
      rw [hx1']
      have KX1 := Kept.mk hc1
      have KW1 := Kept.mk (KW0.out.trans (hB1.mono KW0.out.size))
      have hz1 : y0.heap.size < x1.heap.size := (Array.getElem?_eq_some_iff.1 hc1).1
      clear hx1 hx1' hc1 hB1
      go_loopw [3, 33] (fun _ kv wr => ∃ k : Nat, k ≤ 5 ∧ kv = .int .i64 k ∧ Below x1.heap.size x1 wr) (fun _ kv _ => 5 - (intOf kv).toNat)
      case atStart => exact ⟨0, Nat.zero_le _, rfl, Below.refl _ _⟩
      case round =>
        obtain ⟨k, hk, rfl, hbel⟩ := hrel
        have KBr := Kept.mk hbel
        by_cases hlt : k < 5
        · have hki : (k : Int) < 5 := by omega
          have hlt' : k < (fx1 lg).length := hlt
          have hc : wr.cell? ⟨y0.heap.size, k, none⟩ = some (.string ((fx1 lg)[k]'hlt')) := by
            rw [hbel.cell (p := ⟨y0.heap.size, k, none⟩) hz1]
            exact cell_list KX1.out hlt'
          have hq := List.all_eq_true.1 KF1.out _ (List.getElem_mem hlt')
          obtain ⟨P, hP⟩ : ∃ P, (fx1 lg)[k]'hlt' = P := ⟨_, rfl⟩
          rw [hP] at hc hq
          have KC1 := KN.out P wr (KW1.out.trans (hbel.mono KW1.out.size))
          rw [hq] at KC1
          have KC1 := Kept.mk KC1
          clear hP hq hbel hlt'
          go_wp2_with fail
          refine Calls.mono KC1.out (fun e w3 hp => ?_)
          obtain ⟨rfl, hb3⟩ := hp
          have KB3 := Kept.mk (KBr.out.trans (hb3.mono KBr.out.size))
          clear hb3
          go_wp2
          go_roundw
          case rel => exact ⟨k + 1, by omega, rfl, KB3.out⟩
          case measure => simp [intOf]; omega
        · have hke : k = 5 := by omega
          subst hke
          have KWn := Kept.mk (KW1.out.trans (KBr.out.mono KW1.out.size))
          clear hbel hlt hk KBr KW1 KX1 hz1
          have KW1 := KWn
          clear KWn
          rw [show ((5 : Nat) : Int) = 5 from rfl]
          generalize wr = y1 at *
          go_wp2
          obtain ⟨x2, hx2, hB2, hc2⟩ := box_list y1 (fx2 lg)
          have hx2' : y1.alloc (.cells #[.string ⟨#[46, 71, 105, 116]⟩, .string ⟨#[97, 47, 98]⟩, .string ⟨#[]⟩, .string ⟨#[46]⟩, .string ⟨#[46, 46]⟩, .string (lg ++ ⟨#[97]⟩), .string ⟨#[97, 0]⟩, .string ⟨#[46, 71, 73, 84]⟩] 9) = x2 := hx2
          rw [hx2']
          have KX2 := Kept.mk hc2
          have KW2 := Kept.mk (KW1.out.trans (hB2.mono KW1.out.size))
          have hz2 : y1.heap.size < x2.heap.size := (Array.getElem?_eq_some_iff.1 hc2).1
          clear hx2 hx2' hc2 hB2
          go_loopw [5, 45] (fun _ kv wr => ∃ k : Nat, k ≤ 8 ∧ kv = .int .i64 k ∧ Below x2.heap.size x2 wr) (fun _ kv _ => 8 - (intOf kv).toNat)
          case atStart => exact ⟨0, Nat.zero_le _, rfl, Below.refl _ _⟩
          case round =>
            obtain ⟨k, hk, rfl, hbel⟩ := hrel
            have KBr := Kept.mk hbel
            by_cases hlt : k < 8
            · have hki : (k : Int) < 8 := by omega
              have hlt' : k < (fx2 lg).length := hlt
              have hc : wr.cell? ⟨y1.heap.size, k, none⟩ = some (.string ((fx2 lg)[k]'hlt')) := by
                rw [hbel.cell (p := ⟨y1.heap.size, k, none⟩) hz2]
                exact cell_list KX2.out hlt'
              have hq := List.all_eq_true.1 KF2.out _ (List.getElem_mem hlt')
              obtain ⟨P, hP⟩ : ∃ P, (fx2 lg)[k]'hlt' = P := ⟨_, rfl⟩
              rw [hP] at hc hq
              have KC1 := KN.out P wr (KW2.out.trans (hbel.mono KW2.out.size))
              rw [show nameF P = false by simpa using hq] at KC1
              have KC1 := Kept.mk KC1
              clear hP hq hbel hlt'
              go_wp2_with fail
              refine Calls.mono KC1.out (fun e w3 hp => ?_)
              obtain ⟨rfl, hb3⟩ := hp
              have KB3 := Kept.mk (KBr.out.trans (hb3.mono KBr.out.size))
              clear hb3
              go_wp2
              go_roundw
              case rel => exact ⟨k + 1, by omega, rfl, KB3.out⟩
              case measure => simp [intOf]; omega
            · have hke : k = 8 := by omega
              subst hke
              have KWn := Kept.mk (KW2.out.trans (KBr.out.mono KW2.out.size))
              clear hbel hlt hk KBr KW2 KX2 hz2
              have KW2 := KWn
              clear KWn
              rw [show ((8 : Nat) : Int) = 8 from rfl]
              generalize wr = y2 at *
              go_wp2
              obtain ⟨x3, hx3, hB3, hc3⟩ := box_list y2 (fx3 lg)
              have hx3' : y2.alloc (.cells #[.string ⟨#[97, 47, 47, 98]⟩, .string ⟨#[47, 97]⟩, .string ⟨#[97, 47]⟩, .string ⟨#[]⟩, .string ⟨#[97, 47, 46, 46, 47, 98]⟩, .string ⟨#[97, 47, 46, 103, 105, 116, 47, 98]⟩, .string (lg ++ ⟨#[47]⟩ ++ lg)] 9) = x3 := hx3
              rw [hx3']
              have KX3 := Kept.mk hc3
              have KW3 := Kept.mk (KW2.out.trans (hB3.mono KW2.out.size))
              have hz3 : y2.heap.size < x3.heap.size := (Array.getElem?_eq_some_iff.1 hc3).1
              clear hx3 hx3' hc3 hB3
              go_loopw [7, 58] (fun _ kv wr => ∃ k : Nat, k ≤ 7 ∧ kv = .int .i64 k ∧ Below x3.heap.size x3 wr) (fun _ kv _ => 7 - (intOf kv).toNat)
              case atStart => exact ⟨0, Nat.zero_le _, rfl, Below.refl _ _⟩
              case round =>
                obtain ⟨k, hk, rfl, hbel⟩ := hrel
                have KBr := Kept.mk hbel
                by_cases hlt : k < 7
                · have hki : (k : Int) < 7 := by omega
                  have hlt' : k < (fx3 lg).length := hlt
                  have hc : wr.cell? ⟨y2.heap.size, k, none⟩ = some (.string ((fx3 lg)[k]'hlt')) := by
                    rw [hbel.cell (p := ⟨y2.heap.size, k, none⟩) hz3]
                    exact cell_list KX3.out hlt'
                  have hq := List.all_eq_true.1 KF3.out _ (List.getElem_mem hlt')
                  obtain ⟨P, hP⟩ : ∃ P, (fx3 lg)[k]'hlt' = P := ⟨_, rfl⟩
                  rw [hP] at hc hq
                  have KC1 := KP.out P wr (KW3.out.trans (hbel.mono KW3.out.size))
                  rw [show pathF P = false by simpa using hq] at KC1
                  have KC1 := Kept.mk KC1
                  clear hP hq hbel hlt'
                  go_wp2_with fail
                  refine Calls.mono KC1.out (fun e w3 hp => ?_)
                  obtain ⟨rfl, hb3⟩ := hp
                  have KB3 := Kept.mk (KBr.out.trans (hb3.mono KBr.out.size))
                  clear hb3
                  go_wp2
                  go_roundw
                  case rel => exact ⟨k + 1, by omega, rfl, KB3.out⟩
                  case measure => simp [intOf]; omega
                · have hke : k = 7 := by omega
                  subst hke
                  have KWn := Kept.mk (KW3.out.trans (KBr.out.mono KW3.out.size))
                  clear hbel hlt hk KBr KW3 KX3 hz3
                  have KW3 := KWn
                  clear KWn
                  rw [show ((7 : Nat) : Int) = 7 from rfl]
                  generalize wr = y3 at *
                  have KF4 := Kept.mk fx4_all
                  go_wp2
                  obtain ⟨x4, hx4, hB4, hc4⟩ := box_list y3 (fx4)
                  have hx4' : y3.alloc (.cells #[.string ⟨#[114, 101, 102, 115, 47, 120]⟩, .string ⟨#[114, 101, 102, 115, 47, 104, 101, 97, 100, 115, 47, 97, 46, 108, 111, 99, 107]⟩, .string ⟨#[114, 101, 102, 115, 47, 104, 101, 97, 100, 115, 47, 97, 46, 46, 98]⟩, .string ⟨#[109, 97, 105, 110]⟩, .string ⟨#[114, 101, 102, 115, 47, 104, 101, 97, 100, 115, 47]⟩, .string ⟨#[114, 101, 102, 115, 47, 104, 101, 97, 100, 115, 47, 46, 97]⟩, .string ⟨#[114, 101, 102, 115, 47, 104, 101, 97, 100, 115, 47, 97, 46]⟩, .string ⟨#[114, 101, 102, 115, 47, 104, 101, 97, 100, 115, 47, 97, 32, 98]⟩, .string ⟨#[114, 101, 102, 115, 47, 104, 101, 97, 100, 115, 47, 97, 64, 123]⟩, .string ⟨#[114, 101, 102, 115, 47, 104, 101, 97, 100, 115, 47, 97, 126]⟩, .string ⟨#[104, 101, 97, 100]⟩, .string ⟨#[82, 101, 102, 115, 47, 104, 101, 97, 100, 115, 47, 97]⟩, .string ⟨#[114, 101, 102, 115, 47, 104, 101, 97, 100, 115, 47, 97, 127]⟩, .string ⟨#[114, 101, 102, 115, 47, 47, 97]⟩] 9) = x4 := hx4
                  rw [hx4']
                  have KX4 := Kept.mk hc4
                  have KW4 := Kept.mk (KW3.out.trans (hB4.mono KW3.out.size))
                  have hz4 : y3.heap.size < x4.heap.size := (Array.getElem?_eq_some_iff.1 hc4).1
                  clear hx4 hx4' hc4 hB4
                  go_loopw [9, 67] (fun _ kv wr => ∃ k : Nat, k ≤ 14 ∧ kv = .int .i64 k ∧ Below x4.heap.size x4 wr) (fun _ kv _ => 14 - (intOf kv).toNat)
                  case atStart => exact ⟨0, Nat.zero_le _, rfl, Below.refl _ _⟩
                  case round =>
                    obtain ⟨k, hk, rfl, hbel⟩ := hrel
                    have KBr := Kept.mk hbel
                    by_cases hlt : k < 14
                    · have hki : (k : Int) < 14 := by omega
                      have hlt' : k < (fx4).length := hlt
                      have hc : wr.cell? ⟨y3.heap.size, k, none⟩ = some (.string ((fx4)[k]'hlt')) := by
                        rw [hbel.cell (p := ⟨y3.heap.size, k, none⟩) hz4]
                        exact cell_list KX4.out hlt'
                      have hq := List.all_eq_true.1 KF4.out _ (List.getElem_mem hlt')
                      obtain ⟨P, hP⟩ : ∃ P, (fx4)[k]'hlt' = P := ⟨_, rfl⟩
                      rw [hP] at hc hq
                      have KC1 := KR.out P wr (KW4.out.trans (hbel.mono KW4.out.size))
                      rw [show refF P = false by simpa using hq] at KC1
                      have KC1 := Kept.mk KC1
                      clear hP hq hbel hlt'
                      go_wp2_with fail
                      refine Calls.mono KC1.out (fun e w3 hp => ?_)
                      obtain ⟨rfl, hb3⟩ := hp
                      have KB3 := Kept.mk (KBr.out.trans (hb3.mono KBr.out.size))
                      clear hb3
                      go_wp2
                      go_roundw
                      case rel => exact ⟨k + 1, by omega, rfl, KB3.out⟩
                      case measure => simp [intOf]; omega
                    · have hke : k = 14 := by omega
                      subst hke
                      have KWn := Kept.mk (KW4.out.trans (KBr.out.mono KW4.out.size))
                      clear hbel hlt hk KBr KW4 KX4 hz4
                      have KW4 := KWn
                      clear KWn
                      rw [show ((14 : Nat) : Int) = 14 from rfl]
                      generalize wr = y4 at *
                      have KPut : Kept (∀ w', Below w.heap.size w w' → Calls Tryd.prog 18 #[.agg #[.string ⟨#[]⟩, .string ⟨#[]⟩, .int .i64 5, .int .i64 0]] w' fun e w2 => e = .returned (.tuple #[.string fxS, .int .i64 0]) ∧ Below w'.heap.size w' w2) := ⟨fun w' h => by
                        have := putIdent_any fxI w' (KG.out w' h)
                        rw [fx_put.1, fx_put.2] at this
                        exact this⟩
                      have KQ1 : Kept (∀ w', Below w.heap.size w w' → Calls Tryd.prog 20 #[.string ⟨#[65, 32, 60, 98, 62, 32, 48, 53, 32, 43, 48, 48, 48, 48]⟩] w' fun e w2 => e = .returned (.tuple #[.agg #[.string .empty, .string .empty, .int .i64 0, .int .i64 0], .int .i64 4]) ∧ Below w'.heap.size w' w2) := ⟨fun w' h => by
                        have := parseIdent_any fxQ1 w' (KG.out w' h) (by decide)
                        rw [fx_q1] at this
                        exact this⟩
                      have KQ2 : Kept (∀ w', Below w.heap.size w w' → Calls Tryd.prog 20 #[.string ⟨#[65, 32, 60, 98, 62, 32, 53, 32, 45, 48, 48, 48, 48]⟩] w' fun e w2 => e = .returned (.tuple #[.agg #[.string .empty, .string .empty, .int .i64 0, .int .i64 0], .int .i64 4]) ∧ Below w'.heap.size w' w2) := ⟨fun w' h => by
                        have := parseIdent_any fxQ2 w' (KG.out w' h) (by decide)
                        rw [fx_q2] at this
                        exact this⟩
                      have KQ3 : Kept (∀ w', Below w.heap.size w w' → Calls Tryd.prog 20 #[.string ⟨#[65, 32, 60, 98, 62, 32, 53, 32, 43, 48, 48, 54, 48]⟩] w' fun e w2 => e = .returned (.tuple #[.agg #[.string .empty, .string .empty, .int .i64 0, .int .i64 0], .int .i64 4]) ∧ Below w'.heap.size w' w2) := ⟨fun w' h => by
                        have := parseIdent_any fxQ3 w' (KG.out w' h) (by decide)
                        rw [fx_q3] at this
                        exact this⟩
                      have KQ4 : Kept (∀ w', Below w.heap.size w w' → Calls Tryd.prog 20 #[.string ⟨#[65, 32, 60, 98, 62, 32, 53, 32, 43, 50, 52, 48, 48]⟩] w' fun e w2 => e = .returned (.tuple #[.agg #[.string .empty, .string .empty, .int .i64 0, .int .i64 0], .int .i64 4]) ∧ Below w'.heap.size w' w2) := ⟨fun w' h => by
                        have := parseIdent_any fxQ4 w' (KG.out w' h) (by decide)
                        rw [fx_q4] at this
                        exact this⟩
                      have KQ5 : Kept (∀ w', Below w.heap.size w w' → Calls Tryd.prog 20 #[.string ⟨#[]⟩] w' fun e w2 => e = .returned (.tuple #[.agg #[.string .empty, .string .empty, .int .i64 0, .int .i64 0], .int .i64 4]) ∧ Below w'.heap.size w' w2) := ⟨fun w' h => by
                        have := parseIdent_any fxQ5 w' (KG.out w' h) (by decide)
                        rw [fx_q5] at this
                        exact this⟩
                      clear KF1 KF2 KF3 KF4 KN
                      go_wp2_with fail
                      refine Calls.mono (KPut.out y4 KW4.out) (fun e z0 hp => ?_)
                      obtain ⟨rfl, hb⟩ := hp
                      have KZ0 := Kept.mk (KW4.out.trans (hb.mono KW4.out.size))
                      have hfS : fxS.toList = [32, 60, 62, 32, 53, 32, 43, 48, 48, 48, 48] := by unfold fxS; rw [Lib.toList_data]
                      generalize fxS = SS at *
                      clear hb KPut
                      go_wp2_with fail
                      refine Calls.mono (KQ1.out z0 KZ0.out) (fun e v1 hp => ?_)
                      obtain ⟨rfl, hb⟩ := hp
                      have hb' := KZ0.out.trans (hb.mono KZ0.out.size)
                      have KV1 := Kept.mk hb'
                      clear hb hb' KQ1
                      go_wp2_with fail
                      obtain ⟨z1, hz1, hB1, -, -⟩ := box_ident v1 ⟨.empty, .empty, 0, 0⟩
                      simp only at hz1
                      rw [hz1]
                      have KZ1 := Kept.mk (KV1.out.trans (hB1.mono KV1.out.size))
                      clear hB1 hz1
                      refine Calls.mono (KQ2.out z1 KZ1.out) (fun e v2 hp => ?_)
                      obtain ⟨rfl, hb⟩ := hp
                      have hb' := KZ1.out.trans (hb.mono KZ1.out.size)
                      have KV2 := Kept.mk hb'
                      clear hb hb' KQ2
                      go_wp2_with fail
                      obtain ⟨z2, hz2, hB2, -, -⟩ := box_ident v2 ⟨.empty, .empty, 0, 0⟩
                      simp only at hz2
                      rw [hz2]
                      have KZ2 := Kept.mk (KV2.out.trans (hB2.mono KV2.out.size))
                      clear hB2 hz2
                      refine Calls.mono (KQ3.out z2 KZ2.out) (fun e v3 hp => ?_)
                      obtain ⟨rfl, hb⟩ := hp
                      have hb' := KZ2.out.trans (hb.mono KZ2.out.size)
                      have KV3 := Kept.mk hb'
                      clear hb hb' KQ3
                      go_wp2_with fail
                      obtain ⟨z3, hz3, hB3, -, -⟩ := box_ident v3 ⟨.empty, .empty, 0, 0⟩
                      simp only at hz3
                      rw [hz3]
                      have KZ3 := Kept.mk (KV3.out.trans (hB3.mono KV3.out.size))
                      clear hB3 hz3
                      refine Calls.mono (KQ4.out z3 KZ3.out) (fun e v4 hp => ?_)
                      obtain ⟨rfl, hb⟩ := hp
                      have hb' := KZ3.out.trans (hb.mono KZ3.out.size)
                      have KV4 := Kept.mk hb'
                      clear hb hb' KQ4
                      go_wp2_with fail
                      obtain ⟨z4, hz4, hB4, -, -⟩ := box_ident v4 ⟨.empty, .empty, 0, 0⟩
                      simp only at hz4
                      rw [hz4]
                      have KZ4 := Kept.mk (KV4.out.trans (hB4.mono KV4.out.size))
                      clear hB4 hz4
                      refine Calls.mono (KQ5.out z4 KZ4.out) (fun e v5 hp => ?_)
                      obtain ⟨rfl, hb⟩ := hp
                      have hb' := KZ4.out.trans (hb.mono KZ4.out.size)
                      have KV5 := Kept.mk hb'
                      clear hb hb' KQ5
                      go_upto_region 38 with fail
                      obtain ⟨z5, hz5, hB5, -, -⟩ := box_ident v5 ⟨.empty, .empty, 0, 0⟩
                      simp only at hz5
                      rw [hz5]
                      have KZ5 := Kept.mk (KV5.out.trans (hB5.mono KV5.out.size))
                      clear hB5 hz5
                      obtain ⟨ET, hET, eT, oT⟩ := built_T
                      obtain ⟨EB, hEB, eB, oB⟩ := built_B
                      obtain ⟨EA, hEA, eA, oA⟩ := built_A
                      have KO1 : Kept (∀ w', Calls Tryd.prog 24 #[.agg ET, .agg EB] w' fun e w2 => e = .returned (.int .i64 1) ∧ Below w'.heap.size w' w2) := ⟨fun w' => by
                        have := order_any eT eB (by decide) (by decide) w'
                        rw [cmp_TB] at this
                        exact this⟩
                      have KO2 : Kept (∀ w', Calls Tryd.prog 24 #[.agg EA, .agg ET] w' fun e w2 => e = .returned (.int .i64 (-1)) ∧ Below w'.heap.size w' w2) := ⟨fun w' => by
                        have := order_any eA eT (by decide) (by decide) w'
                        rw [cmp_AT] at this
                        exact this⟩
                      have KI : Kept ((Tryd.prog.info? 38).map (·.size) = some ET.size) := ⟨by rw [eT.sz]; exact info_E⟩
                      have KT := Kept.mk hET
                      have KTB := Kept.mk hEB
                      have KTA := Kept.mk hEA
                      have KTo := Kept.mk oT
                      have KTs := Kept.mk eT.sz
                      clear hET hEB hEA eT eB eA oT oB oA
                      go_wp2_with (first | (refine BigFrame.wpList_want rfl (fun K hK => wp_buildE 16384 ⟨#[97]⟩ rfl ET KT.out (hK _ _ ?_))) | (refine BigFrame.wpList_want rfl (fun K hK => wp_store_row 38 _ _ rfl z5.heap.size ET rfl rfl 38 _ (heap_alloc_new z5 _) KI.out (by rw [KTs.out]; rfl) KTo.out (hK _ _ ?_)); rw [World.setRow_alloc_new]))
                      have hB6 : Below z5.heap.size z5 (z5.alloc (.cells ET 38)) := (Below.refl _ _).alloc (Nat.le_refl _) _
                      have hb6 := heap_alloc_new z5 (.cells ET 38)
                      obtain ⟨z6, hz6⟩ : ∃ z6, z5.alloc (.cells ET 38) = z6 := ⟨_, rfl⟩
                      rw [hz6] at hB6 hb6 ⊢
                      have hlt6 : z5.heap.size < z6.heap.size := (Array.getElem?_eq_some_iff.1 hb6).1
                      have KBk : Kept (∀ w', Below z6.heap.size z6 w' → w'.heap[z5.heap.size]? = some (.cells ET 38 (0, 0))) := ⟨fun w' h => by rw [h.block _ hlt6]; exact hb6⟩
                      have KZ6 := Kept.mk (KZ5.out.trans (hB6.mono KZ5.out.size))
                      have KR1 := KR.out ⟨#[114, 101, 102, 115, 47, 104, 101, 97, 100, 115, 47, 109, 97, 105, 110]⟩
                      have KR2 := KR.out ⟨#[72, 69, 65, 68]⟩
                      have KR3 := KR.out ⟨#[114, 101, 102, 115, 47, 104, 101, 97, 100, 115, 47, 64]⟩
                      rw [fx_r1] at KR1
                      rw [fx_r2] at KR2
                      rw [fx_r3] at KR3
                      have KR1 := Kept.mk KR1
                      have KR2 := Kept.mk KR2
                      have KR3 := Kept.mk KR3
                      obtain ⟨J, hJ⟩ : ∃ J, lg ++ ⟨#[47]⟩ ++ lg.extract 1 100 = J := ⟨_, rfl⟩
                      have hF5 := KF5.out
                      rw [hJ] at hF5
                      have KPJ := KP.out J
                      rw [hF5] at KPJ
                      have KPJ := Kept.mk KPJ
                      clear hF5 hz6 hB6 hb6 KR KP KF5
                      refine Calls.mono (KR1.out z6 KZ6.out) (fun e q1 hp => ?_)
                      obtain ⟨rfl, hb⟩ := hp
                      have KQ1 := Kept.mk hb
                      clear hb
                      go_wp2_with fail
                      refine Calls.mono (KR2.out q1 (KZ6.out.trans (KQ1.out.mono KZ6.out.size))) (fun e q2 hp => ?_)
                      obtain ⟨rfl, hb⟩ := hp
                      have KQ2 := Kept.mk (KQ1.out.trans (hb.mono KQ1.out.size))
                      clear hb
                      go_wp2_with fail
                      refine Calls.mono (KR3.out q2 (KZ6.out.trans (KQ2.out.mono KZ6.out.size))) (fun e q3 hp => ?_)
                      obtain ⟨rfl, hb⟩ := hp
                      have KQ3 := Kept.mk (KQ2.out.trans (hb.mono KQ2.out.size))
                      clear hb
                      go_wp2_with fail
                      refine Calls.mono (KPJ.out q3 (KZ6.out.trans (KQ3.out.mono KZ6.out.size))) (fun e q4 hp => ?_)
                      obtain ⟨rfl, hb⟩ := hp
                      have KQ4 := Kept.mk (KQ3.out.trans (hb.mono KQ3.out.size))
                      clear hb
                      have RX := Kept.mk (KBk.out q4 KQ4.out)
                      go_wp2_with (first | (refine BigFrame.wpList_want rfl (fun K hK => wp_load_row 38 _ rfl _ rfl _ ET _ _ RX.out Tryd.underlying38 rfl KI.out (hK _ _ ?_))) | (refine BigFrame.wpList_want rfl (fun K hK => wp_buildE 33188 ⟨#[97, 46, 98]⟩ rfl EB KTB.out (hK _ _ ?_))))
                      refine Calls.mono (KO1.out q4) (fun e q5 hp => ?_)
                      obtain ⟨rfl, hb⟩ := hp
                      have KQ5 := Kept.mk (KQ4.out.trans (hb.mono KQ4.out.size))
                      clear hb RX
                      have RX := Kept.mk (KBk.out q5 KQ5.out)
                      go_wp2_with (first | (refine BigFrame.wpList_want rfl (fun K hK => wp_load_row 38 _ rfl _ rfl _ ET _ _ RX.out Tryd.underlying38 rfl KI.out (hK _ _ ?_))) | (refine BigFrame.wpList_want rfl (fun K hK => wp_buildE 33188 ⟨#[97]⟩ rfl EA KTA.out (hK _ _ ?_))))
                      refine Calls.mono (KO2.out q5) (fun e q6 hp => ?_)
                      obtain ⟨rfl, hb⟩ := hp
                      have KQ6 := Kept.mk (KQ5.out.trans (hb.mono KQ5.out.size))
                      clear hb RX
                      go_wp2
                      go_ret
                      exact ⟨by first | rfl | simp, KZ6.out.trans (KQ6.out.mono KZ6.out.size)⟩
end Go.Proofs.YtbagkmhhgngbcaaDoor
