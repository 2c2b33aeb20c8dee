/-
  Walks: Text.
-/
import Derived.Test.YtjhcpmhjdhmjpaaVL
namespace Go.Proofs.Ytjhcpmhjdhmjpaa
open Go.RowKit Go.Shelf

/-- A step, told. -/
def tlS (a b : List ByteArray) (p q : Pt) : List UInt8 :=
  if q = (p.1 + 1, p.2 + 1) then tl 32 (a[p.1]?.getD ⟨#[]⟩) else if q = (p.1 + 1, p.2) then tl 45 (a[p.1]?.getD ⟨#[]⟩) else tl 43 (b[p.2]?.getD ⟨#[]⟩)
/-- A way, told. -/
def txP (a b : List ByteArray) : List Pt → List UInt8
  | p :: q :: r => tlS a b p q ++ txP a b (q :: r)
  | _ => []
theorem txP_drop {a b : List ByteArray} {W : List Pt} {i : Nat} {p q : Pt} (hp : W[i]? = some p) (hq : W[i + 1]? = some q) : txP a b (W.drop i) = tlS a b p q ++ txP a b (W.drop (i + 1)) := by
  obtain ⟨h1, g1⟩ := List.getElem?_eq_some_iff.1 hp
  obtain ⟨h2, g2⟩ := List.getElem?_eq_some_iff.1 hq
  rw [List.drop_eq_getElem_cons h1, List.drop_eq_getElem_cons h2, g1, g2, txP]
theorem txP_end {a b : List ByteArray} {W : List Pt} {i : Nat} (h : W.length = i + 1) : txP a b (W.drop i) = [] := by
  have h1 : i < W.length := by omega
  rw [List.drop_eq_getElem_cons h1, List.drop_eq_nil_of_le (by omega), txP]
  intro _ _ _ h
  cases h
set_option maxHeartbeats 2000000 in
set_option maxRecDepth 100000 in
theorem text_any (v u : Value) (a b : List ByteArray) (w : World) (hv : RdS w v a) (hu : RdS w u b) (ha : ∀ s ∈ a, s.size ≤ maxLen) (hb : ∀ s ∈ b, s.size ≤ maxLen) (hal : a.length ≤ 1000) (hbl : b.length ≤ 1000) (h2 : 2 ≤ (wayP a b 0 0).length) (hT : (txP a b (wayP a b 0 0)).length ≤ 140737488355328) :
    Calls Try.prog 19 #[v, u] w fun e w' => Below w.heap.size w w' ∧ e = .returned (.tuple #[.string ⟨(txP a b (wayP a b 0 0)).toArray⟩, .int .i64 0]) := by
  have K1 := Kept.mk (way_any v u a b w hv hu ha hb)
  have KA := Kept.mk hv
  have KBB := Kept.mk hu
  obtain ⟨pa, pc, rfl⟩ := hv.form
  obtain ⟨qa, qc, rfl⟩ := hu.form
  have hlb : longB a.length b.length = false := by unfold longB; rw [decide_eq_false (by omega), decide_eq_false (by omega)]; rfl
  clear hv hu ha hb
  go_enter Try.func19, Try.ntmps19
  go_wp2_with fail
  refine Calls.mono K1.out (fun e w2 hp => ?_)
  obtain ⟨hB, hor⟩ := hp
  have KB := Kept.mk hB
  clear hB K1
  rcases hor with ⟨hL, rfl⟩ | ⟨hL, v2, rfl, ho⟩
  · rw [hlb] at hL; cases hL
  · clear hL hlb
    obtain ⟨hok, -, hlen⟩ := way_all a b _ a b 0 0 (Nat.le_refl _) rfl rfl (Nat.zero_le _) (Nat.zero_le _)
    have hne : wayP a b 0 0 ≠ [] := by intro h; rw [h] at h2; simp at h2
    obtain ⟨g, cap, rfl, hgb, hcell⟩ := ho.open hne
    have hcl : (wayP a b 0 0).length ≤ cap := by
      rcases ho.2 with ⟨h1, -⟩ | ⟨g', cap', cur, h1, -, -, h2, -⟩
      · cases h1
      · injection h1 with _ _ h3; omega
    have KRa := Kept.mk (KA.out.later KB.out (Nat.le_refl _))
    have KRb := Kept.mk (KBB.out.later KB.out (Nat.le_refl _))
    generalize hWe : wayP a b 0 0 = W at *
    have KW := Kept.mk hWe
    clear hWe
    have Kok := Kept.mk hok
    have Kcell := Kept.mk hcell
    have KT := Kept.mk hT
    clear ho hok hcell hne hgb hT KA KBB
    obtain ⟨l1, hl1⟩ : ∃ l1, W.length = l1 + 1 := ⟨W.length - 1, by omega⟩
    have hcap2 : ¬ (cap - 1 = 0) := by omega
    have Kl1 := Kept.mk hl1
    rw [hl1]
    rw [hl1] at hlen hcl h2
    clear hl1
    have KBa := Kept.mk ((Below.refl w2.heap.size w2).alloc (Nat.le_refl _) (.cells #[.pointer none, .slice none 0 0] 70))
    have KI0 : Kept (Lib.IsBuilder 70 5 w2.heap.size w2.heap.size (Lib.byteCells []) (w2.alloc (.cells #[.pointer none, .slice none 0 0] 70))) := ⟨.inl ⟨Nat.le_refl _, .slice none 0 0, heap_alloc_new w2 _, World.ownsRow_nil _ _ _ 1, by simp [Value.ownBlock]⟩⟩
    go_upto_region 6 with fail
    go_loopw [26] (fun iv wr => ∃ (i : Nat) (L : List UInt8), i ≤ l1 ∧ iv = .int .i64 i ∧ Lib.IsBuilder 70 5 w2.heap.size w2.heap.size (Lib.byteCells L) wr ∧ L ++ txP a b (W.drop i) = txP a b W ∧ Below w2.heap.size w2 wr) (fun iv _ => l1 - (intOf iv).toNat)
    case atStart => exact ⟨0, [], Nat.zero_le _, rfl, KI0.out, rfl, KBa.out⟩
    case round =>
      obtain ⟨i, L, hil, rfl, hI, hL, hbr⟩ := hrel
      have KI := Kept.mk hI
      have KL := Kept.mk hL
      have KBr := Kept.mk hbr
      clear KI0 KBa hI hL
      have hsz := hbr.size
      by_cases hlt : i < l1
      · have hii : (i : Int) < (l1 : Int) := by omega
        have n0 : (0 : Int) ≤ (i : Int) := by omega
        have n1 : (i : Int) < ((l1 : Nat) : Int) + 1 := by omega
        have e1 : IntKind.i64.wrap ((i : Int) + 1) = (i : Int) + 1 := wr64 (by omega) (by omega)
        have hWl := Kl1.out
        obtain ⟨p, hp⟩ : ∃ p, W[i]? = some p := ⟨_, List.getElem?_eq_getElem (by omega)⟩
        obtain ⟨q, hq⟩ : ∃ q, W[i + 1]? = some q := ⟨_, List.getElem?_eq_getElem (by omega)⟩
        have hsk := Kok.out.steps i p q hp hq
        obtain ⟨p1, p2⟩ := Kok.out.small p (List.mem_of_getElem? hp)
        have cp := Kcell.out wr hbr i p hp
        have cq := Kcell.out wr hbr (i + 1) q hq
        rw [Nat.add_comm i 1] at cq
        obtain ⟨x, y⟩ := p
        simp only at p1 p2 cp
        obtain ⟨q1, q2⟩ := Kok.out.small q (List.mem_of_getElem? hq)
        have htx := txP_drop (a := a) (b := b) hp hq
        have KX : Kept (L ++ tlS a b (x, y) q ++ txP a b (W.drop (i + 1)) = txP a b W) := ⟨by rw [← KL.out, htx, List.append_assoc]⟩
        have KP := Kept.mk (parts_any x y (by omega) (by omega) wr)
        unfold pt at KP
        have h11 := o11
        have h01 := o01
        have h10 := o10
        have h00 : (FloatKind.f64.format.order 0 0 == some .eq) = true := by kernel_rfl
        have x0 : (0 : Int) ≤ (x : Int) := by omega
        have y0 : (0 : Int) ≤ (y : Int) := by omega
        clear htx hp hq
        rcases hsk with ⟨hd, s, hsa, hsb⟩ | hd | hd
        · have hsub := c_sub (p := (x, y)) (q := q) (by simp; omega) (by simp; omega) (.inl ⟨hd, rfl, rfl⟩) wr
          simp only at hsub
          have hxl : x < a.length := by rw [hd] at q1 q2; simp only at q1 q2; omega
          have hxi : (x : Int) < (a.length : Int) := by omega
          have hts : tlS a b (x, y) q = tl 32 s := by unfold tlS; rw [if_pos hd]; simp only; rw [hsa]; rfl
          rw [hts] at KX
          obtain ⟨p', c', he, -, hr⟩ := KRa.out.later hbr (Nat.le_refl _)
          rw [List.length_map] at he hr
          obtain ⟨b1, o1, hp1, -, hr1⟩ := hr (by omega)
          have hpa : pa = some ⟨b1, o1, none⟩ := by injection he with h1 h2 h3; rw [h1, hp1]
          subst hpa
          have cs : wr.cell? ⟨b1, o1 + x, none⟩ = some (.string s) := hr1 x _ (by rw [List.getElem?_map, hsa]; rfl)
          have K4 := Kept.mk (tell_any w2.heap.size w2.heap.size L 32 s wr KI.out (by have h := KT.out; rw [← KX.out, List.length_append] at h; omega) hsz)
          clear he hr hr1 hp1 hd hts hbr KI KL q1 q2 hsa hsb
          generalize fl x = X at *
          generalize fl y = Y at *
          generalize fl q.1 = X2 at *
          generalize fl q.2 = Y2 at *
          go_wp2_with fail
          refine Calls.mono KP.out (fun e w3 hp => ?_)
          obtain ⟨rfl, hw⟩ := hp
          subst w3
          clear KP
          go_wp2_with fail
          refine Calls.mono K4.out (fun e w3 hp => ?_)
          obtain ⟨rfl, hI3, hb3⟩ := hp
          have KB3 := Kept.mk (KBr.out.trans hb3)
          have KI3 := Kept.mk hI3
          clear hI3 hb3 K4 cs cp cq hsub
          go_wp2
          go_roundw
          case rel => exact ⟨i + 1, _, hlt, by go_num, KI3.out, KX.out, KB3.out⟩
          case measure => simp [intOf]; omega
        · have hsub := c_sub (p := (x, y)) (q := q) (by simp; omega) (by simp; omega) (.inr (.inl ⟨hd, rfl, rfl⟩)) wr
          simp only at hsub
          have hxl : x < a.length := by rw [hd] at q1 q2; simp only at q1 q2; omega
          have hxi : (x : Int) < (a.length : Int) := by omega
          obtain ⟨s, hsa⟩ : ∃ s, a[x]? = some s := ⟨_, List.getElem?_eq_getElem hxl⟩
          have hts : tlS a b (x, y) q = tl 45 s := by unfold tlS; rw [if_neg (by rw [hd]; simp), if_pos hd]; simp only; rw [hsa]; rfl
          rw [hts] at KX
          obtain ⟨p', c', he, -, hr⟩ := KRa.out.later hbr (Nat.le_refl _)
          rw [List.length_map] at he hr
          obtain ⟨b1, o1, hp1, -, hr1⟩ := hr (by omega)
          have hpa : pa = some ⟨b1, o1, none⟩ := by injection he with h1 h2 h3; rw [h1, hp1]
          subst hpa
          have cs : wr.cell? ⟨b1, o1 + x, none⟩ = some (.string s) := hr1 x _ (by rw [List.getElem?_map, hsa]; rfl)
          have K4 := Kept.mk (tell_any w2.heap.size w2.heap.size L 45 s wr KI.out (by have h := KT.out; rw [← KX.out, List.length_append] at h; omega) hsz)
          clear he hr hr1 hp1 hd hts hbr KI KL q1 q2 hsa
          generalize fl x = X at *
          generalize fl y = Y at *
          generalize fl q.1 = X2 at *
          generalize fl q.2 = Y2 at *
          go_wp2_with fail
          refine Calls.mono KP.out (fun e w3 hp => ?_)
          obtain ⟨rfl, hw⟩ := hp
          subst w3
          clear KP
          go_wp2_with fail
          refine Calls.mono K4.out (fun e w3 hp => ?_)
          obtain ⟨rfl, hI3, hb3⟩ := hp
          have KB3 := Kept.mk (KBr.out.trans hb3)
          have KI3 := Kept.mk hI3
          clear hI3 hb3 K4 cs cp cq hsub
          go_wp2
          go_roundw
          case rel => exact ⟨i + 1, _, hlt, by go_num, KI3.out, KX.out, KB3.out⟩
          case measure => simp [intOf]; omega
        · have hsub := c_sub (p := (x, y)) (q := q) (by simp; omega) (by simp; omega) (.inr (.inr ⟨hd, rfl, rfl⟩)) wr
          simp only at hsub
          have hxl : y < b.length := by rw [hd] at q1 q2; simp only at q1 q2; omega
          have hxi : (y : Int) < (b.length : Int) := by omega
          obtain ⟨s, hsb⟩ : ∃ s, b[y]? = some s := ⟨_, List.getElem?_eq_getElem hxl⟩
          have hts : tlS a b (x, y) q = tl 43 s := by unfold tlS; rw [if_neg (by rw [hd]; simp), if_neg (by rw [hd]; simp)]; simp only; rw [hsb]; rfl
          rw [hts] at KX
          obtain ⟨p', c', he, -, hr⟩ := KRb.out.later hbr (Nat.le_refl _)
          rw [List.length_map] at he hr
          obtain ⟨b1, o1, hp1, -, hr1⟩ := hr (by omega)
          have hpa : qa = some ⟨b1, o1, none⟩ := by injection he with h1 h2 h3; rw [h1, hp1]
          subst hpa
          have cs : wr.cell? ⟨b1, o1 + y, none⟩ = some (.string s) := hr1 y _ (by rw [List.getElem?_map, hsb]; rfl)
          have K4 := Kept.mk (tell_any w2.heap.size w2.heap.size L 43 s wr KI.out (by have h := KT.out; rw [← KX.out, List.length_append] at h; omega) hsz)
          clear he hr hr1 hp1 hd hts hbr KI KL q1 q2 hsb
          generalize fl x = X at *
          generalize fl y = Y at *
          generalize fl q.1 = X2 at *
          generalize fl q.2 = Y2 at *
          go_wp2_with fail
          refine Calls.mono KP.out (fun e w3 hp => ?_)
          obtain ⟨rfl, hw⟩ := hp
          subst w3
          clear KP
          go_wp2_with fail
          refine Calls.mono K4.out (fun e w3 hp => ?_)
          obtain ⟨rfl, hI3, hb3⟩ := hp
          have KB3 := Kept.mk (KBr.out.trans hb3)
          have KI3 := Kept.mk hI3
          clear hI3 hb3 K4 cs cp cq hsub
          go_wp2
          go_roundw
          case rel => exact ⟨i + 1, _, hlt, by go_num, KI3.out, KX.out, KB3.out⟩
          case measure => simp [intOf]; omega
      · obtain rfl : i = l1 := by omega
        have hii : ¬ (i : Int) < (i : Int) := by omega
        have hLE : L = txP a b W := by rw [← KL.out, txP_end Kl1.out, List.append_nil]
        have KS := Kept.mk (Try.Builder_String_any w2.heap.size w2.heap.size L wr KI.out hsz)
        have KLE := Kept.mk hLE
        clear hLE
        go_wp2_with fail
        refine Calls.mono KS.out (fun e w3 hp => ?_)
        obtain ⟨rfl, hb3⟩ := hp
        have KB3 := Kept.mk (KB.out.trans ((KBr.out.trans hb3).mono KB.out.size))
        clear hb3 KS
        go_wp2
        go_ret2
        exact ⟨KB3.out, by rw [KW.out, ← KLE.out]; rfl⟩
end Go.Proofs.Ytjhcpmhjdhmjpaa
