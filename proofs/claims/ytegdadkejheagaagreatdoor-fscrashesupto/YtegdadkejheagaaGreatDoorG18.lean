/-
  The law's same.
-/
import Derived.Test.YtegdadkejheagaaGreatDoorG17
namespace Go.Proofs.YtegdadkejheagaaGreatDoor
open Go.RowKit Go.WideMaps Go.Maps

theorem OwnF.owK {w : World} {base : Nat} {v : Value} {l : List FlC} (h : OwnF w base v l) : OwK w base 52 2 v (l.map FlC.cs) := ⟨by rw [List.length_map]; exact h.own, fun r hr => by
  obtain ⟨c, -, rfl⟩ := List.mem_map.1 hr
  rfl⟩
/-- What a disk tells of its files is what the document's lists. -/
def Told (s : Ps) (D : DD) : Prop := ∀ ps, KeysOk (nmV s.N) ps → flP s ps = D.names.map fun x => (x.1, (ctF D.files x.2).1)
set_option maxHeartbeats 4000000 in
set_option maxRecDepth 100000 in
theorem same_law {G : Nat → Prop} {lo d n m : Nat} {s : Ps} (D : DD) (V : DVs) (w : World) (hd : Ds lo w d s n m) (hn : n ≤ 900000) (h : DM G w D V) (hl : D.names.length ≤ 1000) (hr : ∀ x ∈ D.names, 1 ≤ x.2 ∧ x.2 ≤ D.files.length) (hf : ∀ x ∈ D.files, x.1.length ≤ 1000000) (hfl : D.files.length ≤ 100000) (ht : Told s D) (hk : s.dark = D.off) (hc : s.count = D.count) :
    Calls Tryz.prog 12 #[.pointer (some ⟨d, 0, none⟩), .agg #[V.n, V.l, V.p, V.f, .int .i64 D.quota, .slice none 0 0, .int .i64 D.offAt, .int .i64 D.count, .bool D.off]] w fun e w' => e = .returned (.bool true) ∧ Below w.heap.size w w' := by
  obtain ⟨w1, hw1⟩ : ∃ w1, w.alloc (.cells #[V.n, V.l, V.p, V.f, .int .i64 D.quota, .slice none 0 0, .int .i64 D.offAt, .int .i64 D.count, .bool D.off] 36) = w1 := ⟨_, rfl⟩
  have hb1 : Below w.heap.size w w1 := by rw [← hw1]; exact (Below.refl _ _).alloc (Nat.le_refl _) _
  have KK1 : Kept (Bk w1 w.heap.size 36 [V.n, V.l, V.p, V.f, .int .i64 D.quota, .slice none 0 0, .int .i64 D.offAt, .int .i64 D.count, .bool D.off]) := ⟨by rw [← hw1]; exact Bk.new w _ _⟩
  have KB1 := Kept.mk hb1
  have KFi := Kept.mk (files_ds (hd.later hb1) hn)
  have KD : Kept (∀ W, Below w.heap.size w W → Ds lo W d s n m) := ⟨fun W hW => hd.later hW⟩
  have KLi : Kept (∀ W, Below w.heap.size w W → Calls Tryz.prog 35 #[.agg #[V.n, V.l, V.p, V.f, .int .i64 D.quota, .slice none 0 0, .int .i64 D.offAt, .int .i64 D.count, .bool D.off]] W fun e w' => ∃ (v : Value) (l : List FlC), e = .returned v ∧ RdK anyB w' 2 v (l.map FlC.cs) ∧ (∀ c ∈ l, Rd .u8 anyB w' c.v c.xs ∧ AllB c.xs) ∧ (l.map fun c => (c.p, c.xs)) = D.names.map (fun x => (x.1, (ctF D.files x.2).1)) ∧ Below W.heap.size W w') := ⟨fun W hW => list_any D V W (h.later hW) hl hr hf hfl⟩
  have Kt := Kept.mk (And.intro ht hl)
  have Kfo := Kept.mk h.form
  obtain ⟨g, hgw⟩ : ∃ g, w.heap.size = g := ⟨_, rfl⟩
  rw [hgw] at KK1
  clear h hb1 hd hn hl hr hf hfl ht
  by_cases hoff : D.off = true
  · have hdk : s.dark = true := by rw [hk, hoff]
    rw [hoff] at KK1 hw1 ⊢
    have d8 := KK1.out.cell 8 _ rfl
    rw [hdk] at KFi
    have Kdk := Kept.mk hdk
    clear hoff hdk hk hc KLi
    go_enter Tryz.func12, Tryz.ntmps12
    go_wp2_with fail
    refine Calls.mono KFi.out (fun e w2 hp => ?_)
    obtain ⟨v2, l2, rfl, ho2, hfl2, hb2⟩ := hp
    have hle : l2 = [] := by unfold FlL at hfl2; rwa [if_pos Kdk.out] at hfl2
    subst hle
    obtain ⟨a2, c2, rfl⟩ := ho2.form
    have KB2 : Kept (Below w.heap.size w w2) := ⟨KB1.out.trans (hb2.mono KB1.out.size)⟩
    have d8 := (KK1.out.below hb2).cell 8 _ rfl
    have KO := Kept.mk (off_ds (KD.out _ KB2.out))
    rw [Kdk.out] at KO
    have e13 : rdyE true = 13 := rfl
    rw [e13]
    clear hb2 ho2 hfl2 KFi e13
    go_wp2_with fail
    refine Calls.mono KO.out (fun e w3 hp => ?_)
    obtain ⟨rfl, rfl⟩ := hp
    go_wp2
    go_ret
    exact ⟨rfl, by have := KB2.out; first | exact this | rwa [hgw] at this⟩
  have hof2 : D.off = false := by simpa using hoff
  have hdk : s.dark = false := by rw [hk, hof2]
  rw [hdk] at KFi
  rw [hof2] at KK1 hw1 KLi ⊢
  have Kdk := Kept.mk hdk
  have Kcn := Kept.mk hc
  have d8 := KK1.out.cell 8 _ rfl
  clear hoff hof2 hdk hk hc
  go_enter Tryz.func12, Tryz.ntmps12
  go_wp2_with fail
  refine Calls.mono KFi.out (fun e w2 hp => ?_)
  obtain ⟨v2, l2, rfl, ho2, hfl2, hb2⟩ := hp
  obtain ⟨a2, c2, rfl⟩ := ho2.form
  have e0 : rdyE false = 0 := rfl
  rw [e0]
  have Ktl : Kept ((l2.map fun c => (c.p, c.xs)) = D.names.map (fun x => (x.1, (ctF D.files x.2).1))) := ⟨by
    unfold FlL at hfl2
    rw [if_neg (by rw [Kdk.out]; decide)] at hfl2
    obtain ⟨ps, hps, hmp⟩ := hfl2
    rw [← Kt.out.1 ps hps]
    exact hmp⟩
  have KB2 : Kept (Below w.heap.size w w2) := ⟨KB1.out.trans (hb2.mono KB1.out.size)⟩
  have KK2 := Kept.mk (KK1.out.below hb2)
  have KO2 := Kept.mk ho2
  have d8 := KK2.out.cell 8 _ rfl
  obtain ⟨L2, hL2⟩ : ∃ L2, l2.length = L2 := ⟨_, rfl⟩
  have Kl2 : Kept (l2.length ≤ 1000000) := ⟨by
    have := congrArg List.length Ktl.out
    rw [List.length_map, List.length_map] at this
    have := Kt.out.2
    omega⟩
  rw [hL2] at KO2 ⊢
  clear hb2 ho2 hfl2 KFi e0 hL2 KK1
  go_upto_region 4 with fail
  refine wp_region_noPanic ?_
  refine wp_region_held_drew (S := fun W => Bk W g 36 [V.n, V.l, V.p, V.f, .int .i64 D.quota, .slice none 0 0, .int .i64 D.offAt, .int .i64 D.count, .bool false]) (by kernel_rfl) (KK2.out.below (show Below w2.heap.size w2 w2.drew from (Below.refl _ _).drew)) (fun hHeld => ?_)
  clear d8
  obtain ⟨W0, hW0⟩ : ∃ W0, w2.drew = W0 := ⟨_, rfl⟩
  have hbW : Below w2.heap.size w2 W0 := by rw [← hW0]; exact (Below.refl _ _).drew
  have KW0 : Kept (Below w.heap.size w W0) := ⟨KB2.out.trans (hbW.mono KB2.out.size)⟩
  have KO0 : Kept (RdK anyB W0 2 (.slice a2 L2 c2) (l2.map FlC.cs) ∧ ∀ c ∈ l2, Rd .u8 anyB W0 c.v c.xs) := ⟨by
    have h1 := KO2.out.later hbW
    exact ⟨h1.owK.rd.weak (fun _ _ _ => trivial), fun c hc => own_rd_any (h1.dat c hc)⟩⟩
  rw [hW0] at hHeld ⊢
  clear hW0 hbW KK2 KO2
  refine wpAnyH_takeD (i := 0) (d := some 25) (v := .int .i64 0) rfl rfl (by kernel_rfl) (by kernel_rfl) (by kernel_rfl) (fun _ _ _ h => h) (Or.inl ⟨by rfl, fun W hSw => by go_simp⟩) (by assumption) ?_
  simp only [Act.put, List.setIfInBounds_toArray, List.set_cons_zero, List.set_cons_succ]
  refine wpAnyH_takeD (i := 1) (d := some 26) (v := .bool true) rfl rfl (by kernel_rfl) (by kernel_rfl) (by kernel_rfl) (fun _ _ _ h => h) (Or.inl ⟨by rfl, fun W hSw => by go_simp⟩) (by assumption) ?_
  simp only [Act.put, List.setIfInBounds_toArray, List.set_cons_zero, List.set_cons_succ]
  refine wpAnyH_takeD (i := 2) (d := some 27) (v := .bool true) rfl rfl (by kernel_rfl) (by kernel_rfl) (by kernel_rfl) (fun _ _ _ h => h) (Or.inl ⟨by rfl, fun W hSw => by go_simp⟩) (by assumption) ?_
  simp only [Act.put, List.setIfInBounds_toArray, List.set_cons_zero, List.set_cons_succ]
  refine wpAnyH_takeD (i := 3) (d := some 28) (v := .slice a2 L2 c2) rfl rfl (by kernel_rfl) (by kernel_rfl) (by kernel_rfl) (fun _ _ _ h => h) (Or.inl ⟨by rfl, fun W hSw => by go_simp⟩) (by assumption) ?_
  simp only [Act.put, List.setIfInBounds_toArray, List.set_cons_zero, List.set_cons_succ]
  refine wpAnyH_takeD (i := 4) (d := some 29) (v := .agg #[V.n, V.l, V.p, V.f, .int .i64 D.quota, .slice none 0 0, .int .i64 D.offAt, .int .i64 D.count, .bool false]) rfl rfl (by kernel_rfl) (by kernel_rfl) (by kernel_rfl) (fun _ _ _ h => h) (Or.inl ⟨by rfl, fun W hSw => by have q0 := hSw.cell 0 _ rfl; have q1 := hSw.cell 1 _ rfl; have q2 := hSw.cell 2 _ rfl; have q3 := hSw.cell 3 _ rfl; have q4 := hSw.cell 4 _ rfl; have q5 := hSw.cell 5 _ rfl; have q6 := hSw.cell 6 _ rfl; have q7 := hSw.cell 7 _ rfl; have q8 := hSw.cell 8 _ rfl; clear hSw; go_simp⟩) (by assumption) ?_
  simp only [Act.put, List.setIfInBounds_toArray, List.set_cons_zero, List.set_cons_succ]
  refine wpAnyH_ready (rs := [5]) (by kernel_rfl) (by simp) ?_
  refine AllReadyH.cons (o := _) rfl (fun K hK => ?_) AllReadyH.nil
  rw [if_pos (by rfl)]
  go_simp
  refine Calls.mono (KLi.out W0 KW0.out) (fun e W1 hp => ?_)
  obtain ⟨v5, l5, rfl, hr5, hd5, hm5, hbB⟩ := hp
  obtain ⟨a5, c5, hv5, -, -⟩ := id hr5
  rw [List.length_map] at hv5
  subst hv5
  have KW1 : Kept (Below w.heap.size w W1) := ⟨KW0.out.trans (hbB.mono KW0.out.size)⟩
  have hm25 : (l2.map fun c => (c.p, c.xs)) = l5.map fun c => (c.p, c.xs) := by rw [Ktl.out, hm5]
  have hA2 : ∀ c ∈ l2, AllB c.xs := fun c hc => by
    have h1 : (c.p, c.xs) ∈ l5.map fun c => (c.p, c.xs) := by rw [← hm25]; exact List.mem_map.2 ⟨c, hc, rfl⟩
    obtain ⟨y, hy, he⟩ := List.mem_map.1 h1
    have he2 : y.xs = c.xs := congrArg Prod.snd he
    rw [← he2]
    exact (hd5 y hy).2
  have KS := Kept.mk (sameFiles_any (.slice a2 L2 c2) (.slice a5 l5.length c5) l2 l5 W1 (KO0.out.1.later hbB) hr5 (fun c hc => ⟨(KO0.out.2 c hc).later hbB (Nat.le_refl _), hA2 c hc⟩) hd5 hm25 Kl2.out)
  have hHeld1 := hHeld.below hbB
  refine hK.out _ _ hHeld1 (fun hHeldX => ?_)
  clear hK K hHeldX hHeld hr5 hd5 hm5 hm25 hA2 hbB KO0 KLi
  generalize l5.length = L5 at *
  refine wpAnyH_ready (rs := [6]) (by kernel_rfl) (by simp) ?_
  refine AllReadyH.cons (o := _) rfl (fun K hK => ?_) AllReadyH.nil
  rw [if_pos (by rfl)]
  go_simp
  refine Calls.mono KS.out (fun e W2 hp => ?_)
  obtain ⟨rfl, hbB⟩ := hp
  have KW2 : Kept (Below w.heap.size w W2) := ⟨KW1.out.trans (hbB.mono KW1.out.size)⟩
  have hHeld2 := hHeld1.below hbB
  have KCo := Kept.mk (count_ds (KD.out _ KW2.out))
  have KOf := Kept.mk (off_ds (KD.out _ KW2.out))
  rw [Kcn.out] at KCo
  rw [Kdk.out] at KOf
  refine hK.out _ _ hHeld2 (fun hHeldX => ?_)
  clear hK K hHeldX hHeld1 hbB KS
  refine wpAnyH_takeD (i := 7) (d := some 32) (v := .bool true) rfl rfl (by kernel_rfl) (by kernel_rfl) (by kernel_rfl) (fun _ _ _ h => h) (Or.inl ⟨by rfl, fun W hSw => by go_simp⟩) (by assumption) ?_
  simp only [Act.put, List.setIfInBounds_toArray, List.set_cons_zero, List.set_cons_succ]
  refine wpAnyH_takeD (i := 8) (d := some 33) (v := .bool true) rfl rfl (by kernel_rfl) (by kernel_rfl) (by kernel_rfl) (fun _ _ _ h => h) (Or.inl ⟨by rfl, fun W hSw => by go_simp⟩) (by assumption) ?_
  simp only [Act.put, List.setIfInBounds_toArray, List.set_cons_zero, List.set_cons_succ]
  refine wpAnyH_takeD (i := 9) (d := some 34) (v := .pointer (some ⟨d, 0, none⟩)) rfl rfl (by kernel_rfl) (by kernel_rfl) (by kernel_rfl) (fun _ _ _ h => h) (Or.inl ⟨by rfl, fun W hSw => by go_simp⟩) (by assumption) ?_
  simp only [Act.put, List.setIfInBounds_toArray, List.set_cons_zero, List.set_cons_succ]
  refine wpAnyH_takeD (i := 11) (d := some 36) (v := .pointer (some ⟨g, 7, none⟩)) rfl rfl (by kernel_rfl) (by kernel_rfl) (by kernel_rfl) (fun _ _ _ h => h) (Or.inl ⟨by rfl, fun W hSw => by go_simp⟩) (by assumption) ?_
  simp only [Act.put, List.setIfInBounds_toArray, List.set_cons_zero, List.set_cons_succ]
  refine wpAnyH_takeD (i := 12) (d := some 37) (v := .int .i64 D.count) rfl rfl (by kernel_rfl) (by kernel_rfl) (by kernel_rfl) (fun _ _ _ h => h) (Or.inl ⟨by rfl, fun W hSw => by have q7 := hSw.cell 7 _ rfl; go_simp⟩) (by assumption) ?_
  simp only [Act.put, List.setIfInBounds_toArray, List.set_cons_zero, List.set_cons_succ]
  refine wpAnyH_ready (rs := [10]) (by kernel_rfl) (by simp) ?_
  refine AllReadyH.cons (o := _) rfl (fun K hK => ?_) AllReadyH.nil
  rw [if_pos (by rfl)]
  go_simp
  refine Calls.mono KCo.out (fun e W3 hp => ?_)
  obtain ⟨rfl, rfl⟩ := hp
  refine hK.out _ _ hHeld2 (fun hHeldX => ?_)
  clear hK K hHeldX KCo
  refine wpAnyH_takeD (i := 13) (d := some 38) (v := .bool true) rfl rfl (by kernel_rfl) (by kernel_rfl) (by kernel_rfl) (fun _ _ _ h => h) (Or.inl ⟨by rfl, fun W hSw => by go_simp⟩) (by assumption) ?_
  simp only [Act.put, List.setIfInBounds_toArray, List.set_cons_zero, List.set_cons_succ]
  refine wpAnyH_takeD (i := 14) (d := some 39) (v := .bool true) rfl rfl (by kernel_rfl) (by kernel_rfl) (by kernel_rfl) (fun _ _ _ h => h) (Or.inl ⟨by rfl, fun W hSw => by go_simp⟩) (by assumption) ?_
  simp only [Act.put, List.setIfInBounds_toArray, List.set_cons_zero, List.set_cons_succ]
  refine wpAnyH_takeD (i := 15) (d := some 40) (v := .bool true) rfl rfl (by kernel_rfl) (by kernel_rfl) (by kernel_rfl) (fun _ _ _ h => h) (Or.inl ⟨by rfl, fun W hSw => by go_simp⟩) (by assumption) ?_
  simp only [Act.put, List.setIfInBounds_toArray, List.set_cons_zero, List.set_cons_succ]
  refine wpAnyH_takeD (i := 16) (d := some 41) (v := .pointer (some ⟨d, 0, none⟩)) rfl rfl (by kernel_rfl) (by kernel_rfl) (by kernel_rfl) (fun _ _ _ h => h) (Or.inl ⟨by rfl, fun W hSw => by go_simp⟩) (by assumption) ?_
  simp only [Act.put, List.setIfInBounds_toArray, List.set_cons_zero, List.set_cons_succ]
  refine wpAnyH_ready (rs := [17]) (by kernel_rfl) (by simp) ?_
  refine AllReadyH.cons (o := _) rfl (fun K hK => ?_) AllReadyH.nil
  rw [if_pos (by rfl)]
  go_simp
  refine Calls.mono KOf.out (fun e W4 hp => ?_)
  obtain ⟨rfl, rfl⟩ := hp
  refine hK.out _ _ hHeld2 (fun hHeldX => ?_)
  clear hK K hHeldX KOf
  refine wpAnyH_takeD (i := 18) (d := some 43) (v := .bool true) rfl rfl (by kernel_rfl) (by kernel_rfl) (by kernel_rfl) (fun _ _ _ h => h) (Or.inl ⟨by rfl, fun W hSw => by go_simp⟩) (by assumption) ?_
  simp only [Act.put, List.setIfInBounds_toArray, List.set_cons_zero, List.set_cons_succ]
  refine wpAnyH_takeD (i := 19) (d := some 44) (v := .bool true) rfl rfl (by kernel_rfl) (by kernel_rfl) (by kernel_rfl) (fun _ _ _ h => h) (Or.inl ⟨by rfl, fun W hSw => by go_simp⟩) (by assumption) ?_
  simp only [Act.put, List.setIfInBounds_toArray, List.set_cons_zero, List.set_cons_succ]
  refine wpAnyH_takeD (i := 20) (d := some 4) (v := .bool true) rfl rfl (by kernel_rfl) (by kernel_rfl) (by kernel_rfl) (fun _ _ _ h => h) (Or.inl ⟨by rfl, fun W hSw => by go_simp⟩) (by assumption) ?_
  simp only [Act.put, List.setIfInBounds_toArray]
  refine wpAnyH_done (by kernel_rfl) ?_ _
  refine NoPanic.normal ?_
  go_wp2
  go_ret
  exact ⟨rfl, by have := KW2.out; first | exact this | rwa [hgw] at this⟩
end Go.Proofs.YtegdadkejheagaaGreatDoor
