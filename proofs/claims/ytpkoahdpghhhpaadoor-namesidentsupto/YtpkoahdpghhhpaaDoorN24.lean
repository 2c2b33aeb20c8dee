/-
  The walk of NamesIdents.
-/
import Derived.Test.YtpkoahdpghhhpaaDoorN10
import Derived.Test.YtpkoahdpghhhpaaDoorN23
namespace Go.Proofs.YtpkoahdpghhhpaaDoor
open Go.RowKit

set_option maxHeartbeats 2000000 in
set_option maxRecDepth 100000 in
theorem idents_walk (i : Idt) (s : ByteArray) (w : World) (hg : Gl w) (hs : s.size < 4294967281) :
    Calls Tryd.prog 4 #[i.v, .string s] w fun e w' => e = .returned (.bool true) ∧ Below w.heap.size w w' := by
  obtain ⟨w1, hw1, hB1, hlt, hc⟩ := box_ident w i
  have KA := Kept.mk (awake_any w1 (hg.later hB1))
  have KC := Kept.mk hc
  have KB1 := Kept.mk hB1
  have KG : Kept (∀ w', Below w1.heap.size w1 w' → Gl w') := ⟨fun w' h => (hg.later hB1).later h⟩
  have KP : Kept (∀ w', Gl w' → Calls Tryd.prog 18 #[i.v] w' fun e w2 => e = .returned (.tuple #[.string (putS i), .int .i64 (putE i)]) ∧ Below w'.heap.size w' w2) := ⟨fun w' h => putIdent_any i w' h⟩
  have KDP : Kept (∀ w', Gl w' → Calls Tryd.prog 19 #[i.v] w' fun e w2 => e = .returned (.tuple #[.string (putS i), .int .i64 (putE i)]) ∧ Below w'.heap.size w' w2) := ⟨fun w' h => docPutIdent_any i w' h⟩
  have KQ : Kept (∀ w', Gl w' → Calls Tryd.prog 20 #[.string s] w' fun e w2 => e = .returned (.tuple #[(prsF s).1.v, .int .i64 (prsF s).2]) ∧ Below w'.heap.size w' w2) := ⟨fun w' h => parseIdent_any s w' h hs⟩
  have KDQ : Kept (∀ w', Gl w' → Calls Tryd.prog 21 #[.string s] w' fun e w2 => e = .returned (.tuple #[(prsF s).1.v, .int .i64 (prsF s).2]) ∧ Below w'.heap.size w' w2) := ⟨fun w' h => (docParseIdent_any s w' h hs).mono fun e w'' hp => by
    obtain ⟨p, q, hp1, hq1, he, hb⟩ := hp.out
    rw [dp_prs hp1 hq1] at he
    exact ⟨he, hb⟩⟩
  have KI : Kept (∀ w', Calls Tryd.prog 22 #[i.v] w' fun e w2 => e = .returned (.bool (idF i)) ∧ Below w'.heap.size w' w2) := ⟨fun w' => ident_any i w'⟩
  have KDI : Kept (∀ w', Calls Tryd.prog 23 #[i.v] w' fun e w2 => e = .returned (.bool (idF i)) ∧ Below w'.heap.size w' w2) := ⟨fun w' => rident_any i w'⟩
  clear hc hB1 hg
  generalize putS i = P at *
  generalize putE i = E at *
  generalize idF i = B at *
  generalize (prsF s).2 = F at *
  generalize (prsF s).1 = jj at *
  obtain ⟨nm, em, tm, zn⟩ := i
  obtain ⟨jn, je, jt, jz⟩ := jj
  unfold Idt.v at KP KDP KQ KDQ KI KDI
  unfold Idt.v
  simp only at *
  go_enter Tryd.func4, Tryd.ntmps4
  go_wp2_with fail
  refine Calls.mono KA.out (fun e w2 hp => ?_)
  obtain ⟨rfl, hb2⟩ := hp
  have KB2 := Kept.mk hb2
  obtain ⟨d0, d1, d2, d3⟩ := KC.out w2 hb2
  clear hb2 KA
  go_wp2_with fail
  refine Calls.mono (KP.out w2 (KG.out _ KB2.out)) (fun e w3 hp => ?_)
  obtain ⟨rfl, hb3⟩ := hp
  have KB3 := Kept.mk (KB2.out.trans (hb3.mono KB2.out.size))
  clear d0 d1 d2 d3
  obtain ⟨d0, d1, d2, d3⟩ := KC.out w3 KB3.out
  clear hb3 KB2 KP
  go_wp2_with fail
  refine Calls.mono (KDP.out w3 (KG.out _ KB3.out)) (fun e w4 hp => ?_)
  obtain ⟨rfl, hb4⟩ := hp
  have KB4 := Kept.mk (KB3.out.trans (hb4.mono KB3.out.size))
  clear hb4 KB3 KDP d0 d1 d2 d3
  go_wp2_with fail
  refine Calls.mono (KQ.out w4 (KG.out _ KB4.out)) (fun e w5 hp => ?_)
  obtain ⟨rfl, hb5⟩ := hp
  have hB5 := KB4.out.trans (hb5.mono KB4.out.size)
  obtain ⟨w6, hw6, hB6, -, hc6⟩ := box_ident w5 ⟨jn, je, jt, jz⟩
  simp only at hw6 hc6
  have KB6 := Kept.mk (hB5.trans (hB6.mono hB5.size))
  have KC6 := Kept.mk hc6
  clear hb5 hB5 hB6 hc6 KB4 KQ
  go_wp2_with fail
  refine Calls.mono (KDQ.out w6 (KG.out _ KB6.out)) (fun e w7 hp => ?_)
  obtain ⟨rfl, hb7⟩ := hp
  have hB7 := KB6.out.trans (hb7.mono KB6.out.size)
  obtain ⟨w8, hw8, hB8, -, hc8⟩ := box_ident w7 ⟨jn, je, jt, jz⟩
  simp only at hw8 hc8
  have KB8 := Kept.mk (hB7.trans (hB8.mono hB7.size))
  obtain ⟨a0, a1, a2, a3⟩ := KC6.out w8 (hb7.trans (hB8.mono hb7.size))
  obtain ⟨b0, b1, b2, b3⟩ := hc8 w8 (Below.refl _ _)
  obtain ⟨d0, d1, d2, d3⟩ := KC.out w8 KB8.out
  have KX : Kept ((∀ W, CC w8 W → (W.cell? ⟨w5.heap.size, 0, none⟩ = some (.string jn) ∧ W.cell? ⟨w5.heap.size, 1, none⟩ = some (.string je) ∧ W.cell? ⟨w5.heap.size, 2, none⟩ = some (.int .i64 jt) ∧ W.cell? ⟨w5.heap.size, 3, none⟩ = some (.int .i64 jz))) ∧ (∀ W, CC w8 W → (W.cell? ⟨w7.heap.size, 0, none⟩ = some (.string jn) ∧ W.cell? ⟨w7.heap.size, 1, none⟩ = some (.string je) ∧ W.cell? ⟨w7.heap.size, 2, none⟩ = some (.int .i64 jt) ∧ W.cell? ⟨w7.heap.size, 3, none⟩ = some (.int .i64 jz)))) := ⟨⟨fun W h => KC6.out W ((hb7.trans (hB8.mono hb7.size)).trans (Below.mono h (hb7.trans (hB8.mono hb7.size)).size)), fun W h => hc8 W h⟩⟩
  clear hb7 hB7 hB8 hc8 KB6 KDQ KC6 a0 a1 a2 a3 b0 b1 b2 b3 d0 d1 d2 d3
  go_wp2_with fail
  have KK : Kept (∀ W, CC w8 W → (W.cell? ⟨w5.heap.size, 0, none⟩ = some (.string jn) ∧ W.cell? ⟨w5.heap.size, 1, none⟩ = some (.string je) ∧ W.cell? ⟨w5.heap.size, 2, none⟩ = some (.int .i64 jt) ∧ W.cell? ⟨w5.heap.size, 3, none⟩ = some (.int .i64 jz)) ∧ (W.cell? ⟨w7.heap.size, 0, none⟩ = some (.string jn) ∧ W.cell? ⟨w7.heap.size, 1, none⟩ = some (.string je) ∧ W.cell? ⟨w7.heap.size, 2, none⟩ = some (.int .i64 jt) ∧ W.cell? ⟨w7.heap.size, 3, none⟩ = some (.int .i64 jz)) ∧ (W.cell? ⟨w.heap.size, 0, none⟩ = some (.string nm) ∧ W.cell? ⟨w.heap.size, 1, none⟩ = some (.string em) ∧ W.cell? ⟨w.heap.size, 2, none⟩ = some (.int .i64 tm) ∧ W.cell? ⟨w.heap.size, 3, none⟩ = some (.int .i64 zn)) ∧ Below w.heap.size w W) := ⟨fun W h => ⟨KX.out.1 W h, KX.out.2 W h, KC.out W (KB8.out.trans (Below.mono h KB8.out.size)), KB1.out.trans ((KB8.out.trans (Below.mono h KB8.out.size)).mono KB1.out.size)⟩⟩
  have K1 : Kept (∀ W, CC w8 W → Calls Tryd.prog 22 #[.agg #[.string nm, .string em, .int .i64 tm, .int .i64 zn]] W fun e w2 => e = .returned (.bool B) ∧ CC w8 w2) := ⟨fun W hw => (KI.out W).mono fun e w2 hp => ⟨hp.1, hw.on hp.2⟩⟩
  have K2 : Kept (∀ W, CC w8 W → Calls Tryd.prog 23 #[.agg #[.string nm, .string em, .int .i64 tm, .int .i64 zn]] W fun e w2 => e = .returned (.bool B) ∧ CC w8 w2) := ⟨fun W hw => (KDI.out W).mono fun e w2 hp => ⟨hp.1, hw.on hp.2⟩⟩
  refine wp_region_quietC (C := CC w8) (by kernel_rfl) (by kernel_rfl) (Below.refl _ _).drew ?_
  refine BigFrame.wpQuiet_want rfl (fun K hK => quiet_run (v := .string P) (fun W hW => by go_simp) (hK _ ?_))
  clear hK K
  simp only [Act.put, List.setIfInBounds_toArray, List.set_cons_zero, List.set_cons_succ]
  refine BigFrame.wpQuiet_want rfl (fun K hK => quiet_run (v := .string P) (fun W hW => by go_simp) (hK _ ?_))
  clear hK K
  simp only [Act.put, List.setIfInBounds_toArray, List.set_cons_zero, List.set_cons_succ]
  refine BigFrame.wpQuiet_want rfl (fun K hK => quiet_run (v := .bool true) (fun W hW => by go_simp) (hK _ ?_))
  clear hK K
  simp only [Act.put, List.setIfInBounds_toArray, List.set_cons_zero, List.set_cons_succ]
  refine BigFrame.wpQuiet_want rfl (fun K hK => quiet_run (v := .bool true) (fun W hW => by go_simp) (hK _ ?_))
  clear hK K
  simp only [Act.put, List.setIfInBounds_toArray, List.set_cons_zero, List.set_cons_succ]
  refine BigFrame.wpQuiet_want rfl (fun K hK => quiet_run (v := .int .i64 E) (fun W hW => by go_simp) (hK _ ?_))
  clear hK K
  simp only [Act.put, List.setIfInBounds_toArray, List.set_cons_zero, List.set_cons_succ]
  refine BigFrame.wpQuiet_want rfl (fun K hK => quiet_run (v := .int .i64 E) (fun W hW => by go_simp) (hK _ ?_))
  clear hK K
  simp only [Act.put, List.setIfInBounds_toArray, List.set_cons_zero, List.set_cons_succ]
  refine BigFrame.wpQuiet_want rfl (fun K hK => quiet_run (v := .bool true) (fun W hW => by go_simp) (hK _ ?_))
  clear hK K
  simp only [Act.put, List.setIfInBounds_toArray, List.set_cons_zero, List.set_cons_succ]
  refine BigFrame.wpQuiet_want rfl (fun K hK => quiet_run (v := .bool true) (fun W hW => by go_simp) (hK _ ?_))
  clear hK K
  simp only [Act.put, List.setIfInBounds_toArray, List.set_cons_zero, List.set_cons_succ]
  refine BigFrame.wpQuiet_want rfl (fun K hK => quiet_run (v := .bool true) (fun W hW => by go_simp) (hK _ ?_))
  clear hK K
  simp only [Act.put, List.setIfInBounds_toArray, List.set_cons_zero, List.set_cons_succ]
  refine BigFrame.wpQuiet_want rfl (fun K hK => quiet_run (v := .agg #[.string jn, .string je, .int .i64 jt, .int .i64 jz]) (fun W hW => by obtain ⟨⟨u0, u1, u2, u3⟩, -, -, -⟩ := KK.out W hW; go_simp) (hK _ ?_))
  clear hK K
  simp only [Act.put, List.setIfInBounds_toArray, List.set_cons_zero, List.set_cons_succ]
  refine BigFrame.wpQuiet_want rfl (fun K hK => quiet_run (v := .agg #[.string jn, .string je, .int .i64 jt, .int .i64 jz]) (fun W hW => by obtain ⟨-, ⟨u0, u1, u2, u3⟩, -, -⟩ := KK.out W hW; go_simp) (hK _ ?_))
  clear hK K
  simp only [Act.put, List.setIfInBounds_toArray, List.set_cons_zero, List.set_cons_succ]
  refine BigFrame.wpQuiet_want rfl (fun K hK => quiet_run (v := .bool true) (fun W hW => by go_simp) (hK _ ?_))
  clear hK K
  simp only [Act.put, List.setIfInBounds_toArray, List.set_cons_zero, List.set_cons_succ]
  refine BigFrame.wpQuiet_want rfl (fun K hK => quiet_run (v := .bool true) (fun W hW => by go_simp) (hK _ ?_))
  clear hK K
  simp only [Act.put, List.setIfInBounds_toArray, List.set_cons_zero, List.set_cons_succ]
  refine BigFrame.wpQuiet_want rfl (fun K hK => quiet_run (v := .bool true) (fun W hW => by go_simp) (hK _ ?_))
  clear hK K
  simp only [Act.put, List.setIfInBounds_toArray, List.set_cons_zero, List.set_cons_succ]
  refine BigFrame.wpQuiet_want rfl (fun K hK => quiet_run (v := .int .i64 F) (fun W hW => by go_simp) (hK _ ?_))
  clear hK K
  simp only [Act.put, List.setIfInBounds_toArray, List.set_cons_zero, List.set_cons_succ]
  refine BigFrame.wpQuiet_want rfl (fun K hK => quiet_run (v := .int .i64 F) (fun W hW => by go_simp) (hK _ ?_))
  clear hK K
  simp only [Act.put, List.setIfInBounds_toArray, List.set_cons_zero, List.set_cons_succ]
  refine BigFrame.wpQuiet_want rfl (fun K hK => quiet_run (v := .bool true) (fun W hW => by go_simp) (hK _ ?_))
  clear hK K
  simp only [Act.put, List.setIfInBounds_toArray, List.set_cons_zero, List.set_cons_succ]
  refine BigFrame.wpQuiet_want rfl (fun K hK => quiet_run (v := .bool true) (fun W hW => by go_simp) (hK _ ?_))
  clear hK K
  simp only [Act.put, List.setIfInBounds_toArray, List.set_cons_zero, List.set_cons_succ]
  refine BigFrame.wpQuiet_want rfl (fun K hK => quiet_run (v := .bool true) (fun W hW => by go_simp) (hK _ ?_))
  clear hK K
  simp only [Act.put, List.setIfInBounds_toArray, List.set_cons_zero, List.set_cons_succ]
  refine BigFrame.wpQuiet_want rfl (fun K hK => quiet_run (v := .agg #[.string nm, .string em, .int .i64 tm, .int .i64 zn]) (fun W hW => by obtain ⟨-, -, ⟨u0, u1, u2, u3⟩, -⟩ := KK.out W hW; go_simp) (hK _ ?_))
  clear hK K
  simp only [Act.put, List.setIfInBounds_toArray, List.set_cons_zero, List.set_cons_succ]
  go_big_quiet_step ((intro hCw; exact K1.out _ hCw))
  refine BigFrame.wpQuiet_want rfl (fun K hK => quiet_run (v := .agg #[.string nm, .string em, .int .i64 tm, .int .i64 zn]) (fun W hW => by obtain ⟨-, -, ⟨u0, u1, u2, u3⟩, -⟩ := KK.out W hW; go_simp) (hK _ ?_))
  clear hK K
  simp only [Act.put, List.setIfInBounds_toArray, List.set_cons_zero, List.set_cons_succ]
  go_big_quiet_step ((intro hCw; exact K2.out _ hCw))
  refine BigFrame.wpQuiet_want rfl (fun K hK => quiet_run (v := .bool true) (fun W hW => by go_simp) (hK _ ?_))
  clear hK K
  simp only [Act.put, List.setIfInBounds_toArray, List.set_cons_zero, List.set_cons_succ]
  refine BigFrame.wpQuiet_want rfl (fun K hK => quiet_run (v := .bool true) (fun W hW => by go_simp) (hK _ ?_))
  clear hK K
  simp only [Act.put, List.setIfInBounds_toArray, List.set_cons_zero, List.set_cons_succ]
  refine BigFrame.wpQuiet_want rfl (fun K hK => quiet_run (v := .bool true) (fun W hW => by go_simp) (hK _ ?_))
  clear hK K
  simp only [Act.put, List.setIfInBounds_toArray, List.set_cons_zero, List.set_cons_succ]
  refine wpQuiet_nil ?_
  intro w9 hw9
  have KB9 := Kept.mk (KK.out w9 hw9).2.2.2
  clear hw9 KK K1 K2
  go_wp2
  go_ret
  exact ⟨rfl, KB9.out⟩
end Go.Proofs.YtpkoahdpghhhpaaDoor
