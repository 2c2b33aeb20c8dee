/-
  IndexOne's walk.
-/
import Derived.Test.YthkaohkondkhgaaDoorIO8
namespace Go.Proofs.YthkaohkondkhgaaDoor
open Go.RowKit

theorem exec_load_mid {P : Program} {o : Oper} {a : Act} {w : World} (ty : TypeId) (x : Operand) (ho : o.op = .load ty x)
    (b off : Nat) (hx : a.eval x = .pointer (some ⟨b, off, none⟩)) (cs : List Value) (d : TypeDesc) (hc : w.rangeAt b off cs)
    (hu : P.underlying ty = some d) (hd : d.isRow = true) (hi : (P.info? ty).map (·.size) = some cs.length) : (execOp a.eval o).run P w = .ok (.value (.agg cs.toArray)) w := by
  unfold execOp
  simp only [ho, hx, Instr.loadAt, Instr.sureAddr, Sem.run_bind, Sem.run_pure, Result.andThen_ok, run_loadVar_mid w b off ty cs d hc hu hd hi]
set_option maxHeartbeats 4000000 in
set_option maxRecDepth 100000 in
theorem ixone_walk (v u : Value) (p : ByteArray) (st : Int) (es ws : List SlC) (w : World) (hg : Gl w) (hr : RdZ w v es) (hs : RdZ w u ws) :
    Calls Tryd.prog 6 #[v, .string p, u, .int .i64 st] w fun e w' => e = .returned (.bool true) ∧ Below w.heap.size w w' := by
  have KA := Kept.mk (awake_any w hg)
  have KG := Kept.mk hg
  have KE := Kept.mk hr
  have KW := Kept.mk hs
  obtain ⟨a, c, hv, hlc, -⟩ := hr
  subst hv
  obtain ⟨a2, c2, hv, hlc2, -⟩ := hs
  subst hv
  clear hg
  go_enter Tryd.func6, Tryd.ntmps6
  go_wp2_with fail
  refine Calls.mono KA.out (fun x w1 hp => ?_)
  obtain ⟨rfl, hb1⟩ := hp
  have KB1 := Kept.mk hb1
  clear hb1 KA
  by_cases h1 : 100 < es.length
  · have h1i : (100 : Int) < (es.length : Int) := by omega
    go_wp2
    go_ret
    exact ⟨rfl, KB1.out⟩
  have h1i : ¬ (100 : Int) < (es.length : Int) := by omega
  by_cases h2 : 10 < ws.length
  · have h2i : (10 : Int) < (ws.length : Int) := by omega
    go_wp2
    go_ret
    exact ⟨rfl, KB1.out⟩
  have h2i : ¬ (10 : Int) < (ws.length : Int) := by omega
  have KS := Kept.mk (set_any p (.slice a es.length c) (.slice a2 ws.length c2) es ws w1 (KG.out.later KB1.out) (KE.out.later KB1.out) (KW.out.later KB1.out) (by omega) (by omega))
  go_wp2_with fail
  refine Calls.mono KS.out (fun x w2 hp => ?_)
  obtain ⟨v2, E, L, rfl, hL, hLl, hSe, hb2⟩ := hp
  have KB2 := Kept.mk (KB1.out.trans (hb2.mono KB1.out.size))
  have KL := Kept.mk hL
  have KLl := Kept.mk hLl
  have KSe := Kept.mk hSe
  obtain ⟨a3, c3, hv3, -⟩ := hL
  subst hv3
  clear hb2 hLl hSe KS
  by_cases h0 : E = 0
  · subst h0
    obtain ⟨hwp, hck, hpm⟩ := KSe.out.good rfl
    have KC := Kept.mk (check_any (.slice a3 L.length c3) L w2 (KG.out.later KB2.out) KL.out (by have := KLl.out; omega))
    rw [hck] at KC
    have Kwp := Kept.mk hwp
    have Kck := Kept.mk hck
    have Kpm := Kept.mk hpm
    clear hwp hck hpm
    go_wp2_with fail
    refine Calls.mono KC.out (fun x w3 hp => ?_)
    obtain ⟨rfl, hb3⟩ := hp
    have KB3 := Kept.mk (KB2.out.trans (hb3.mono KB2.out.size))
    have KL3 := Kept.mk (KL.out.later hb3)
    clear hb3 KC
    go_wp2
    go_loopw [47] (fun kv wr => ∃ k : Nat, k ≤ ws.length ∧ kv = .int .i64 k ∧ Below w.heap.size w wr ∧ Below w3.heap.size w3 wr) (fun kv _ => ws.length - (intOf kv).toNat)
    case atStart => exact ⟨0, Nat.zero_le _, rfl, KB3.out, Below.refl _ _⟩
    case round =>
      obtain ⟨k, hk, rfl, hbel, hbel3⟩ := hrel
      have KBr := Kept.mk hbel
      have KK := Kept.mk KW.out.ok
      have KR : Kept (0 < ws.length → ∃ b off, a2 = some ⟨b, off, none⟩ ∧ b < w.heap.size ∧ ∀ i (hi : i < ws.length), w.rangeAt b (off + i * 37) (ws[i]'hi).l) := ⟨by
        obtain ⟨a', c', hv, -, -, h⟩ := KW.out
        injection hv with h1 h2 h3
        subst h1
        exact h⟩
      have KLr := Kept.mk (KL3.out.later hbel3)
      have KBr3 := Kept.mk hbel3
      by_cases hlt : k < ws.length
      · have hki : (k : Int) < (ws.length : Int) := by omega
        obtain ⟨b, off, hab, hbl, hrg⟩ := KR.out (by omega)
        subst hab
        have hR : Kept (wr.rangeAt b (off + k * 37) (ws[k]'hlt).l) := ⟨fun j u hu => by
          rw [hbel.cell (p := ⟨b, off + k * 37 + j, none⟩) hbl]
          exact hrg k hlt j u hu⟩
        have hko := KK.out _ (List.getElem_mem hlt)
        have Kmem : Kept (ws[k]'hlt ∈ ws) := ⟨List.getElem_mem hlt⟩
        have KTk : Kept (ws.take (k + 1) = ws.take k ++ [ws[k]'hlt]) := ⟨by rw [List.take_add_one, List.getElem?_eq_getElem hlt]; rfl⟩
        obtain ⟨e, he⟩ : ∃ e, ws[k]'hlt = e := ⟨_, rfl⟩
        rw [he] at hR hko Kmem KTk
        have KI := Kept.mk (SlC.info hko)
        have Kok := Kept.mk hko
        obtain ⟨x2, hx2, hBx, hzx, hbx, hcx⟩ := SlC.box wr hko
        have KBx3 := Kept.mk (KBr3.out.trans (hBx.mono KBr3.out.size))
        have KBx := Kept.mk (KBr.out.trans (hBx.mono KBr.out.size))
        have KLx := Kept.mk (KLr.out.later hBx)
        have Kcx := Kept.mk hcx
        have KSx : Kept (∀ W, CC x2 W → W.rangeAt wr.heap.size 0 e.l) := ⟨fun W hW j u hu => by
          rw [Nat.zero_add]
          exact BlS.cell ((show BlS x2 wr.heap.size e from hbx).far hW (by omega)) hu⟩
        have KI2 : Kept ((Tryd.prog.info? 41).map (·.size) = some e.l.toArray.size) := ⟨by rw [List.size_toArray]; exact KI.out⟩
        have KSz : Kept (e.l.toArray.size = 37) := ⟨by rw [List.size_toArray]; exact SlC.len Kok.out⟩
        have KOn : Kept (e.l.toArray.all (·.oneCell') = true) := ⟨by rw [Array.all_eq_true_iff_forall_mem]; intro x hx; exact SlC.ones _ x (by simpa using hx)⟩
        have KEq : Kept (∀ W, (Op.equalIn 10000 41 (.agg e.l.toArray) (.agg e.l.toArray)).run Tryd.prog W = .ok true W) := ⟨fun W => eq_slot W 9997 Kok.out⟩
        have KFd : Kept (e ∈ L → Calls Tryd.prog 19 #[.slice a3 L.length c3, .string e.pt, .int .i64 e.st] x2 fun x w' => x = .returned (.tuple #[.agg e.l.toArray, .int .i64 0]) ∧ Below x2.heap.size x2 w') := ⟨fun hm => by
          obtain ⟨kk, hkk, hLk⟩ := List.mem_iff_getElem.1 hm
          have h := find_any (.slice a3 L.length c3) L x2 (KG.out.later KBx.out) KLx.out (by have := KLl.out; omega) Kck.out kk hkk
          rw [hLk] at h
          exact h⟩
        clear he hbel hbel3 hrg hko hBx hcx hzx hbx
        have KFd2 : Kept (Calls Tryd.prog 19 #[.slice a3 L.length c3, .string p, .int .i64 e.st] x2 fun x w' => x = .returned (.tuple #[.agg e.l.toArray, .int .i64 0]) ∧ Below x2.heap.size x2 w') := ⟨by
          have h := KFd.out (Kpm.out.mem_iff.2 (List.mem_append_right _ Kmem.out))
          rw [Kwp.out e Kmem.out] at h
          exact h⟩
        obtain ⟨-, c1, -⟩ := Kcx.out x2 (CC.refl _)
        go_upto_region 13 with (first | (refine wpList_load_mid rfl 41 _ rfl b (off + k * 37) rfl e.l _ hR.out Tryd.underlying41 rfl KI.out ?_) | (refine BigFrame.wpList_want rfl (fun K hK => wp_store_row 41 _ _ rfl wr.heap.size e.l.toArray rfl rfl 41 _ (heap_alloc_new wr _) KI2.out (by rw [KSz.out]; rfl) KOn.out (hK _ _ ?_)); rw [World.setRow_alloc_new]))
        try rw [hx2]
        clear hx2
        go_wp2_with fail
        refine Calls.mono KFd2.out (fun x w5 hp => ?_)
        obtain ⟨rfl, hb5⟩ := hp
        obtain ⟨x6, hx6, hB6, hz6, hb6, -⟩ := SlC.box w5 Kok.out
        have KB6 := Kept.mk (KBx.out.trans ((hb5.trans (hB6.mono hb5.size)).mono KBx.out.size))
        have KB63 := Kept.mk (KBx3.out.trans ((hb5.trans (hB6.mono hb5.size)).mono KBx3.out.size))
        have KS6 : Kept (x6.rangeAt wr.heap.size 0 e.l) := ⟨KSx.out x6 (hb5.trans (hB6.mono hb5.size))⟩
        have KX6 : Kept (x6.rangeAt w5.heap.size 0 e.l) := ⟨fun j u hu => by
          rw [Nat.zero_add]
          exact BlS.cell (show BlS x6 w5.heap.size e from hb6) hu⟩
        clear hb5 hB6 hz6 hb6
        go_upto_region 14 with (refine BigFrame.wpList_want rfl (fun K hK => wp_store_row 41 _ _ rfl w5.heap.size e.l.toArray rfl rfl 41 _ (heap_alloc_new w5 _) KI2.out (by rw [KSz.out]; rfl) KOn.out (hK _ _ ?_)); rw [World.setRow_alloc_new])
        try rw [hx6]
        clear hx6
        clear c1
        go_wp2_with (first | (refine BigFrame.wpList_want rfl (fun K hK => wp_exec (exec_load_mid 41 _ rfl w5.heap.size 0 rfl e.l _ KX6.out Tryd.underlying41 rfl KI.out) (hK _ _ ?_))) | (refine BigFrame.wpList_want rfl (fun K hK => wp_exec (exec_load_mid 41 _ rfl wr.heap.size 0 rfl e.l _ KS6.out Tryd.underlying41 rfl KI.out) (hK _ _ ?_))) | (refine BigFrame.wpList_want rfl (fun K hK => wp_exec (v := .bool false) (exec_neqE 41 Tryd.eqGuardType41 rfl rfl rfl (KEq.out _)) (hK _ _ ?_))))
        go_roundw
        case rel => exact ⟨k + 1, hlt, by go_num, KB6.out, KB63.out⟩
        case measure => simp [intOf]; omega
      · have hki : ¬ (k : Int) < (ws.length : Int) := by omega
        clear hbel hbel3
        go_wp2
        have KW3 := Kept.mk (trivial : True)
        go_loopw [15, 69] (fun cv kv wq => ∃ k : Nat, k ≤ es.length ∧ kv = .int .i64 k ∧ cv = .int .i64 (((es.take k).filter (othF p)).length : Nat) ∧ Below w.heap.size w wq ∧ Below w3.heap.size w3 wq) (fun _ kv _ => es.length - (intOf kv).toNat)
        case atStart => exact ⟨0, Nat.zero_le _, rfl, rfl, KBr.out, KBr3.out⟩
        case round =>
          obtain ⟨k, hk, rfl, rfl, hbel, hbel3⟩ := hrel
          have KBr := Kept.mk hbel
          have KK := Kept.mk KE.out.ok
          have KR : Kept (0 < es.length → ∃ b off, a = some ⟨b, off, none⟩ ∧ b < w.heap.size ∧ ∀ i (hi : i < es.length), w.rangeAt b (off + i * 37) (es[i]'hi).l) := ⟨by
            obtain ⟨a', c', hv, -, -, h⟩ := KE.out
            injection hv with h1 h2 h3
            subst h1
            exact h⟩
          have KLr := Kept.mk (KL3.out.later hbel3)
          have KBr3 := Kept.mk hbel3
          by_cases hlt : k < es.length
          · have hki : (k : Int) < (es.length : Int) := by omega
            obtain ⟨b, off, hab, hbl, hrg⟩ := KR.out (by omega)
            subst hab
            have hR : Kept (wr.rangeAt b (off + k * 37) (es[k]'hlt).l) := ⟨fun j u hu => by
              rw [hbel.cell (p := ⟨b, off + k * 37 + j, none⟩) hbl]
              exact hrg k hlt j u hu⟩
            have hko := KK.out _ (List.getElem_mem hlt)
            have Kmem : Kept (es[k]'hlt ∈ es) := ⟨List.getElem_mem hlt⟩
            have KTk : Kept (es.take (k + 1) = es.take k ++ [es[k]'hlt]) := ⟨by rw [List.take_add_one, List.getElem?_eq_getElem hlt]; rfl⟩
            obtain ⟨e, he⟩ : ∃ e, es[k]'hlt = e := ⟨_, rfl⟩
            rw [he] at hR hko Kmem KTk
            have KI := Kept.mk (SlC.info hko)
            have Kok := Kept.mk hko
            obtain ⟨x2, hx2, hBx, hzx, hbx, hcx⟩ := SlC.box wr hko
            have KBx3 := Kept.mk (KBr3.out.trans (hBx.mono KBr3.out.size))
            have KBx := Kept.mk (KBr.out.trans (hBx.mono KBr.out.size))
            have KLx := Kept.mk (KLr.out.later hBx)
            have Kcx := Kept.mk hcx
            have KSx : Kept (∀ W, CC x2 W → W.rangeAt wr.heap.size 0 e.l) := ⟨fun W hW j u hu => by
              rw [Nat.zero_add]
              exact BlS.cell ((show BlS x2 wr.heap.size e from hbx).far hW (by omega)) hu⟩
            have KI2 : Kept ((Tryd.prog.info? 41).map (·.size) = some e.l.toArray.size) := ⟨by rw [List.size_toArray]; exact KI.out⟩
            have KSz : Kept (e.l.toArray.size = 37) := ⟨by rw [List.size_toArray]; exact SlC.len Kok.out⟩
            have KOn : Kept (e.l.toArray.all (·.oneCell') = true) := ⟨by rw [Array.all_eq_true_iff_forall_mem]; intro x hx; exact SlC.ones _ x (by simpa using hx)⟩
            have KEq : Kept (∀ W, (Op.equalIn 10000 41 (.agg e.l.toArray) (.agg e.l.toArray)).run Tryd.prog W = .ok true W) := ⟨fun W => eq_slot W 9997 Kok.out⟩
            have KFd : Kept (e ∈ L → Calls Tryd.prog 19 #[.slice a3 L.length c3, .string e.pt, .int .i64 e.st] x2 fun x w' => x = .returned (.tuple #[.agg e.l.toArray, .int .i64 0]) ∧ Below x2.heap.size x2 w') := ⟨fun hm => by
              obtain ⟨kk, hkk, hLk⟩ := List.mem_iff_getElem.1 hm
              have h := find_any (.slice a3 L.length c3) L x2 (KG.out.later KBx.out) KLx.out (by have := KLl.out; omega) Kck.out kk hkk
              rw [hLk] at h
              exact h⟩
            clear he hbel hbel3 hrg hko hBx hcx hzx hbx
            obtain ⟨c0, c1, -⟩ := Kcx.out x2 (CC.refl _)
            have KFl : Kept ((es.take (k + 1)).filter (othF p) = (es.take k).filter (othF p) ++ if othF p e then [e] else []) := ⟨by
              rw [KTk.out, List.filter_append]
              congr 1
              simp [List.filter]
              split <;> simp_all⟩
            have KM : Kept (((es.take k).filter (othF p)).length ≤ 1000) := ⟨by
              have h1 := List.length_filter_le (othF p) (es.take k)
              rw [List.length_take] at h1
              omega⟩
            have KFd3 : Kept (othF p e = true → Calls Tryd.prog 19 #[.slice a3 L.length c3, .string e.pt, .int .i64 e.st] x2 fun x w' => x = .returned (.tuple #[.agg e.l.toArray, .int .i64 0]) ∧ Below x2.heap.size x2 w') := ⟨fun hq => KFd.out (Kpm.out.mem_iff.2 (List.mem_append_left _ (List.mem_filter.2 ⟨Kmem.out, hq⟩)))⟩
            obtain ⟨M, hM⟩ : ∃ M, ((es.take k).filter (othF p)).length = M := ⟨_, rfl⟩
            have KMl : Kept (((es.take (k + 1)).filter (othF p)).length = M + if othF p e then 1 else 0) := ⟨by
              rw [KFl.out, List.length_append, hM]
              split <;> rfl⟩
            rw [hM] at KM ⊢
            have hm1 : IntKind.i64.wrap ((M : Int) + 1) = (M : Int) + 1 := by have := KM.out; exact wr64 (by omega) (by omega)
            clear hM KFl
            have hq : (e.pt.toList == p.toList) = !othF p e := by
              have h := str_neq e.pt p
              unfold othF
              rw [← h, Bool.not_not]
            obtain ⟨q, hqq⟩ : ∃ q, othF p e = q := ⟨_, rfl⟩
            rw [hqq] at hq KFd3 KMl
            clear hqq
            go_upto_region 21 with (first | (refine wpList_load_mid rfl 41 _ rfl b (off + k * 37) rfl e.l _ hR.out Tryd.underlying41 rfl KI.out ?_) | (refine BigFrame.wpList_want rfl (fun K hK => wp_store_row 41 _ _ rfl wr.heap.size e.l.toArray rfl rfl 41 _ (heap_alloc_new wr _) KI2.out (by rw [KSz.out]; rfl) KOn.out (hK _ _ ?_)); rw [World.setRow_alloc_new]))
            try rw [hx2]
            clear hx2
            cases q with
            | false =>
              go_wp2
              go_roundw
              case rel => exact ⟨k + 1, hlt, by go_num, by rw [KMl.out]; simp, KBx.out, KBx3.out⟩
              case measure => simp [intOf]; omega
            | true =>
              have KFd2 := Kept.mk (KFd3.out rfl)
              go_wp2_with fail
              refine Calls.mono KFd2.out (fun x w5 hp => ?_)
              obtain ⟨rfl, hb5⟩ := hp
              obtain ⟨x6, hx6, hB6, hz6, hb6, -⟩ := SlC.box w5 Kok.out
              have KB6 := Kept.mk (KBx.out.trans ((hb5.trans (hB6.mono hb5.size)).mono KBx.out.size))
              have KB63 := Kept.mk (KBx3.out.trans ((hb5.trans (hB6.mono hb5.size)).mono KBx3.out.size))
              have KS6 : Kept (x6.rangeAt wr.heap.size 0 e.l) := ⟨KSx.out x6 (hb5.trans (hB6.mono hb5.size))⟩
              have KX6 : Kept (x6.rangeAt w5.heap.size 0 e.l) := ⟨fun j u hu => by
                rw [Nat.zero_add]
                exact BlS.cell (show BlS x6 w5.heap.size e from hb6) hu⟩
              clear hb5 hB6 hz6 hb6
              go_upto_region 24 with (refine BigFrame.wpList_want rfl (fun K hK => wp_store_row 41 _ _ rfl w5.heap.size e.l.toArray rfl rfl 41 _ (heap_alloc_new w5 _) KI2.out (by rw [KSz.out]; rfl) KOn.out (hK _ _ ?_)); rw [World.setRow_alloc_new])
              try rw [hx6]
              clear hx6
              clear c1 c0
              go_wp2_with (first | (refine BigFrame.wpList_want rfl (fun K hK => wp_exec (exec_load_mid 41 _ rfl w5.heap.size 0 rfl e.l _ KX6.out Tryd.underlying41 rfl KI.out) (hK _ _ ?_))) | (refine BigFrame.wpList_want rfl (fun K hK => wp_exec (exec_load_mid 41 _ rfl wr.heap.size 0 rfl e.l _ KS6.out Tryd.underlying41 rfl KI.out) (hK _ _ ?_))) | (refine BigFrame.wpList_want rfl (fun K hK => wp_exec (v := .bool false) (exec_neqE 41 Tryd.eqGuardType41 rfl rfl rfl (KEq.out _)) (hK _ _ ?_))))
              go_roundw
              case rel => exact ⟨k + 1, hlt, by go_num, by rw [KMl.out]; simp, KB6.out, KB63.out⟩
              case measure => simp [intOf]; omega
          · have hki : ¬ (k : Int) < (es.length : Int) := by omega
            obtain rfl : k = es.length := by omega
            rw [List.take_length]
            have hlen : L.length = (es.filter (othF p)).length + ws.length := by rw [Kpm.out.length_eq, List.length_append]
            have hfl := List.length_filter_le (othF p) es
            obtain ⟨M, hM⟩ : ∃ M, (es.filter (othF p)).length = M := ⟨_, rfl⟩
            rw [hM] at hlen hfl ⊢
            have hadd : IntKind.i64.wrap ((M : Int) + (ws.length : Int)) = (M : Int) + (ws.length : Int) := wr64 (by omega) (by omega)
            have hle : (L.length : Int) = (M : Int) + (ws.length : Int) := by omega
            have Kle := Kept.mk hle
            clear hbel hbel3 hM hlen
            have hleb : ((L.length : Int) == (M : Int) + (ws.length : Int)) = true := by rw [hle]; simp
            clear hle
            go_wp2
            go_ret
            refine ⟨?_, KBr.out⟩
            first | rfl | (rw [Kle.out]; simp) | simp [Kle.out]
  · have h0b : (E != 0) = true := by simpa using h0
    have hn := KSe.out.bad h0
    subst hn
    go_wp2
    go_ret
    exact ⟨rfl, KB2.out⟩
end Go.Proofs.YthkaohkondkhgaaDoor
