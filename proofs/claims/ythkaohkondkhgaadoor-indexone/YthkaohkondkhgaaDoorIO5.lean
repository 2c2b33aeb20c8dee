/-
  Slots in order; Find.
-/
import Derived.Test.YthkaohkondkhgaaDoorIO2
namespace Go.Proofs.YthkaohkondkhgaaDoor
open Go.RowKit

theorem cmp_on : ∀ (x y z : List UInt8), Lib.compareBytes x y ≤ 0 → Lib.compareBytes y z ≤ 0 → Lib.compareBytes x z ≤ 0
  | [], _, [], _, _ => by decide
  | [], _, _ :: _, _, _ => by simp [Lib.compareBytes]
  | _ :: _, [], _, h, _ => by simp [Lib.compareBytes] at h
  | _ :: _, _ :: _, [], _, h => by simp [Lib.compareBytes] at h
  | a :: x, b :: y, c :: z, h, g => by
    have ih := cmp_on x y z
    unfold Lib.compareBytes at h g ⊢
    simp only [UInt8.lt_iff_toNat_lt] at h g ⊢
    generalize a.toNat = p at *
    generalize b.toNat = q at *
    generalize c.toNat = r at *
    grind
theorem cmp_zero {x y : List UInt8} (h : Lib.compareBytes x y = 0) : x = y := by
  by_cases he : x = y
  · exact he
  · cases hb : Op.bytesLess x y with
    | true => rw [cmp_less x y hb] at h; cases h
    | false => rw [cmp_more x y hb he] at h; cases h
theorem pt_data {a b : SlC} : a.pt.data.toList = b.pt.data.toList ↔ a.pt = b.pt := by
  constructor
  · intro h
    have := Array.toList_inj.1 h
    cases ha : a.pt; cases hb : b.pt
    rw [ha, hb] at this
    simp only at this
    rw [this]
  · intro h; rw [h]
theorem ordZ_neg {a b : SlC} : ordZ a b < 0 ↔ Lib.compareBytes a.pt.data.toList b.pt.data.toList < 0 ∨ (a.pt = b.pt ∧ a.st < b.st) := by
  unfold ordZ orI
  by_cases h0 : Lib.compareBytes a.pt.data.toList b.pt.data.toList = 0
  · rw [if_pos h0]
    have hp := pt_data.1 (cmp_zero h0)
    constructor
    · intro h
      refine .inr ⟨hp, ?_⟩
      unfold Lib.compareInt at h
      split at h
      · assumption
      · split at h <;> omega
    · rintro (h | ⟨-, h⟩)
      · omega
      · unfold Lib.compareInt
        rw [if_pos h]
        decide
  · rw [if_neg h0]
    constructor
    · exact fun h => .inl h
    · rintro (h | ⟨h, -⟩)
      · exact h
      · exact absurd (by rw [h]; exact cmp_same _) h0
theorem ordZ_trans {a b c : SlC} (h : ordZ a b < 0) (g : ordZ b c < 0) : ordZ a c < 0 := by
  rw [ordZ_neg] at h g ⊢
  rcases h with h | ⟨h1, h2⟩
  · rcases g with g | ⟨g1, g2⟩
    · have h3 := cmp_on _ _ _ (Int.le_of_lt h) (Int.le_of_lt g)
      rcases Int.lt_or_eq_of_le h3 with h4 | h4
      · exact .inl h4
      · exfalso
        have h5 := cmp_zero h4
        rw [h5] at h
        have := cmp_flip c.pt.data.toList b.pt.data.toList
        omega
    · rw [← g1]; exact .inl h
  · rcases g with g | ⟨g1, g2⟩
    · rw [h1]; exact .inl g
    · exact .inr ⟨h1.trans g1, by omega⟩
theorem ordZ_irr (a : SlC) : ordZ a a = 0 := by
  unfold ordZ orI
  rw [cmp_same, if_pos rfl]
  unfold Lib.compareInt
  rw [if_neg (by omega), if_neg (by omega)]
theorem ord_pair : ∀ {es : List SlC}, ordB es = true → es.Pairwise (fun a b => ordZ a b < 0)
  | [], _ => List.Pairwise.nil
  | [a], _ => by simp
  | a :: b :: es, h => by
    unfold ordB at h
    rw [Bool.and_eq_true] at h
    have ih := ord_pair h.2
    have hab : ordZ a b < 0 := by
      have := h.1
      unfold behB at this
      rw [Bool.and_eq_true] at this
      exact of_decide_eq_true this.2
    refine List.Pairwise.cons (fun x hx => ?_) ih
    rcases List.mem_cons.1 hx with rfl | hx
    · exact hab
    · exact ordZ_trans hab ((List.pairwise_cons.1 ih).1 x hx)
theorem ordZ_key {a b c : SlC} (h1 : a.pt = b.pt) (h2 : a.st = b.st) : ordZ c a = ordZ c b := by
  unfold ordZ
  rw [h1, h2]


theorem results_rt {P : Program} {fn : Func} {p u : Tmp} {ty : TypeId} (h : fn.results = #[.cell p ty, .tmp u]) (tmps : Array Value) (w : World) (g : Nat) (t' : TypeId) (cs : Array Value) (fr : Nat × Nat) (d : TypeDesc)
    (hp : tmps.getD p undef = .pointer (some ⟨g, 0, none⟩)) (hg : w.heap[g]? = some (.cells cs t' fr))
    (hu : P.underlying ty = some d) (hd : (match d with | .struct _ | .array _ _ => true | _ => false) = true) (hi : (P.info? ty).map (·.size) = some cs.size) :
    (results fn tmps).run P w = .ok (.tuple #[.agg cs, tmps.getD u undef]) w := by
  have hp' : tmps[p]?.getD undef = .pointer (some ⟨g, 0, none⟩) := by simpa using hp
  simp [results, h, hp', asAddr, run_loadVar_row w g t' ty cs fr d hg hu hd hi]

def keyS (p : ByteArray) (st : Int) : SlC := ⟨p, st, 0, List.replicate 32 0, 0, 0⟩
theorem keyS_ok {p : ByteArray} {st : Int} (hp : p.size ≤ 140737488355328) (hs : i64B st) : (keyS p st).ok :=
  ⟨rfl, (fun x hx => by unfold keyS at hx; simp at hx; omega), hs, by unfold i64B keyS; simp only; omega, by unfold i64B keyS; simp only; omega, by unfold i64B keyS; simp only; omega, hp⟩
theorem builtK (X0 X1 : Value) : Tryd.prog.built 41 [(0, X0), (1, X1)] = Instr.fill ((#[(0, 1), (1, 1), (2, 1), (3, 32), (35, 1), (36, 1)] : Array (Nat × Nat))[·]?) zS.l.toArray [(0, X0), (1, X1)] := by kernel_rfl
theorem fillK (p : ByteArray) (st : Int) : Instr.fill ((#[(0, 1), (1, 1), (2, 1), (3, 32), (35, 1), (36, 1)] : Array (Nat × Nat))[·]?) zS.l.toArray [(0, .string p), (1, .int .i64 st)] = some (keyS p st).l.toArray := by
  kernel_rfl
set_option maxHeartbeats 4000000 in
set_option maxRecDepth 100000 in
theorem find_any (v : Value) (es : List SlC) (w : World) (hg : Gl w) (hr : RdZ w v es) (hl : es.length ≤ 4398046511104) (hc : chkE es = 0) (k : Nat) (hk : k < es.length) :
    Calls Tryd.prog 19 #[v, .string (es[k]'hk).pt, .int .i64 (es[k]'hk).st] w fun e w' => e = .returned (.tuple #[.agg (es[k]'hk).l.toArray, .int .i64 0]) ∧ Below w.heap.size w w' := by
  have hP := List.pairwise_iff_getElem.1 (ord_pair (chk_ok.1 hc).2.2.2.2)
  have hko := hr.ok _ (List.getElem_mem hk)
  obtain ⟨T, hT⟩ : ∃ T, keyS (es[k]'hk).pt (es[k]'hk).st = T := ⟨_, rfl⟩
  have hTo : T.ok := hT ▸ keyS_ok hko.2.2.2.2.2.2 hko.2.2.1
  have hq : ∀ x, ordZ x T = ordZ x (es[k]'hk) := fun x => ordZ_key (by rw [← hT]; rfl) (by rw [← hT]; rfl)
  obtain ⟨w0, hw0, hB0, hz0, hb0⟩ := box_zero w
  have KCk := Kept.mk (check_any v es w0 (hg.later hB0) (hr.later hB0) hl)
  rw [hc] at KCk
  have KB0 := Kept.mk hB0
  have Kz0 := Kept.mk hz0
  have Kb0 := Kept.mk hb0
  clear hB0 hz0 hb0
  have KS : Kept (∀ W, Below w.heap.size w W → Calls Tryd.prog 39 #[v, .agg T.l.toArray, .func (.func 38) #[] #[]] W fun e w' => e = .returned (.tuple #[.int .i64 k, .bool true]) ∧ Below W.heap.size W w') := ⟨fun W hW => bsearch_any v es T hTo W (hr.later hW) hl k hk (fun i hi hik => by rw [hq]; exact hP i k hi hk hik) (by rw [hq]; exact ordZ_irr _) (fun i hi hki => by
    rw [hq]
    have h1 := hP k i hk hi hki
    intro h2
    have := ordZ_trans h1 h2
    rw [ordZ_irr] at this
    omega)⟩
  have KOw : Kept (∀ W, Calls Tryd.prog 36 #[.agg (es[k]'hk).l.toArray] W fun x w' => x = .returned (.agg (es[k]'hk).l.toArray) ∧ Below W.heap.size W w') := ⟨fun W => own_any hko W⟩
  have KB : Kept (∀ W, (Instr.build 41 #[(0, .string (es[k]'hk).pt), (1, .int .i64 (es[k]'hk).st)]).run Tryd.prog W = .ok (.agg T.l.toArray) W) := ⟨fun W => run_build (P := Tryd.prog) W 41 _ _ (by
    have h1 := builtK (.string (es[k]'hk).pt) (.int .i64 (es[k]'hk).st)
    rw [fillK, hT] at h1
    exact h1)⟩
  have KI := Kept.mk (SlC.info hko)
  obtain ⟨a, c, hv, hlc, -, hrd⟩ := hr
  subst hv
  obtain ⟨b, off, rfl, hbl, hrg⟩ := hrd (by omega)
  have KR : Kept (∀ W, Below w.heap.size w W → W.rangeAt b (off + k * 37) (es[k]'hk).l) := ⟨fun W hW q u hu => by
    rw [hW.cell (p := ⟨b, off + k * 37 + q, none⟩) hbl]
    exact hrg k hk q u hu⟩
  have hki : (k : Int) < (es.length : Int) := by omega
  have KTl : Kept ((keyS (es[k]'hk).pt (es[k]'hk).st).l.toArray = T.l.toArray) := ⟨by rw [hT]⟩
  have KL : Kept ((es[k]'hk).l.length = 37) := ⟨SlC.len hko⟩
  have KOn : Kept ((es[k]'hk).l.toArray.all (·.oneCell') = true) := ⟨by rw [Array.all_eq_true_iff_forall_mem]; intro x hx; exact SlC.ones _ x (by simpa using hx)⟩
  clear hP hq hT hTo hg hc hrd hrg hko
  generalize (es[k]'hk).pt = PT at *
  generalize (es[k]'hk).st = ST at *
  generalize (es[k]'hk).l = EL at *
  obtain ⟨TL, hTL⟩ : ∃ TL, T.l.toArray = TL := ⟨_, rfl⟩
  rw [hTL] at KS KTl
  have hlit : (#[.string PT, .int .i64 ST, .int .i64 0, .int .u8 0, .int .u8 0, .int .u8 0, .int .u8 0, .int .u8 0, .int .u8 0, .int .u8 0, .int .u8 0, .int .u8 0, .int .u8 0, .int .u8 0, .int .u8 0, .int .u8 0, .int .u8 0, .int .u8 0, .int .u8 0, .int .u8 0, .int .u8 0, .int .u8 0, .int .u8 0, .int .u8 0, .int .u8 0, .int .u8 0, .int .u8 0, .int .u8 0, .int .u8 0, .int .u8 0, .int .u8 0, .int .u8 0, .int .u8 0, .int .u8 0, .int .u8 0, .int .i64 0, .int .i64 0] : Array Value) = TL := KTl.out.symm ▸ rfl
  clear hTL KB KTl
  go_enter Tryd.func19, Tryd.ntmps19
  go_wp2_with fail
  try rw [hw0]
  refine Calls.mono KCk.out (fun x w1 hp => ?_)
  obtain ⟨rfl, hb1⟩ := hp
  have KB1 := Kept.mk hb1
  clear hb1 KCk hw0
  have KB01 := Kept.mk (KB0.out.trans (KB1.out.mono KB0.out.size))
  go_wp2_with fail
  refine Calls.mono (KS.out w1 KB01.out) (fun x w2 hp => ?_)
  obtain ⟨rfl, hb2⟩ := hp
  have KB2 := Kept.mk (KB01.out.trans (hb2.mono KB01.out.size))
  have KB02 : Kept (Below w0.heap.size w0 w2) := ⟨KB1.out.trans (hb2.mono KB1.out.size)⟩
  have hR2 := KR.out w2 KB2.out
  have KR2 := Kept.mk hR2
  clear hb2 hR2 hlit KS
  have KI2 : Kept ((Tryd.prog.info? 41).map (·.size) = some EL.toArray.size) := ⟨by rw [List.size_toArray]; exact KI.out⟩
  have KLs : Kept (EL.toArray.size = 37) := ⟨by rw [List.size_toArray]; exact KL.out⟩
  go_wp2_with (refine wpList_load_mid rfl 41 _ rfl b (off + k * 37) rfl EL _ KR2.out Tryd.underlying41 rfl KI.out ?_)
  refine Calls.mono (KOw.out w2) (fun x w3 hp => ?_)
  obtain ⟨rfl, hb3⟩ := hp
  have KB3 := Kept.mk (KB2.out.trans (hb3.mono KB2.out.size))
  have KB03 : Kept (Below w0.heap.size w0 w3) := ⟨KB02.out.trans (hb3.mono KB02.out.size)⟩
  have Kb3 : Kept (w3.heap[w.heap.size]? = some (.cells zS.l.toArray 41 (0, 0))) := ⟨by rw [KB03.out.block _ (by have := Kz0.out; omega)]; exact Kb0.out⟩
  have KZl : Kept (zS.l.toArray.size = 37) := ⟨rfl⟩
  obtain ⟨ZL, hZL⟩ : ∃ ZL, zS.l.toArray = ZL := ⟨_, rfl⟩
  rw [hZL] at Kb3 KZl
  clear hb3 hZL Kb0
  have KBE : Kept (Below w.heap.size w (w3.setRow w.heap.size EL.toArray)) := ⟨below_setRow KB3.out (Nat.le_refl _) _⟩
  have KrE : Kept ((w3.setRow w.heap.size EL.toArray).heap[w.heap.size]? = some (.cells EL.toArray 41 (0, 0))) := ⟨setRow_heap w3 w.heap.size _ _ _ _ Kb3.out⟩
  go_wp2_with (refine BigFrame.wpList_want rfl (fun K hK => wp_store_row 41 _ _ rfl w.heap.size EL.toArray rfl rfl 41 _ Kb3.out KI2.out (by rw [KLs.out, KZl.out]) KOn.out (hK _ _ ?_)))
  generalize w3.setRow w.heap.size EL.toArray = W9 at *
  refine bodyPost_ret (results_rt rfl _ _ w.heap.size 41 EL.toArray (0, 0) _ rfl KrE.out Tryd.underlying41 rfl KI2.out) rfl ?_
  exact ⟨rfl, KBE.out⟩


set_option maxHeartbeats 1000000 in
set_option maxRecDepth 100000 in
theorem fleast_any (l : List Int) (g : Nat) (w : World) (hr : w.heap[g]? = some (.cells (cellsK .i64 l).toArray 26)) (hl : l.length ≤ 1000) :
    Calls Tryd.prog 34 #[.slice (some ⟨g, 0, none⟩) l.length l.length] w fun e w' => e = .returned (.int .i64 (l.foldl lsF 0)) ∧ w' = w := by
  have KC : Kept (∀ i, i < l.length → w.cell? ⟨g, i, none⟩ = some (.int .i64 (l.getD i 0))) := ⟨fun i hi => by
    rw [cell_of_row w g i _ _ (0, 0) hr]
    unfold cellsK
    simp [List.getD, List.getElem?_eq_getElem hi]⟩
  clear hr
  go_enter Tryd.func34, Tryd.ntmps34
  go_wp2
  go_loop [3, 8] (fun lv kv => ∃ k : Nat, k ≤ l.length ∧ kv = .int .i64 k ∧ lv = .int .i64 ((l.take k).foldl lsF 0)) (fun _ kv => l.length - (intOf kv).toNat)
  case atStart => exact ⟨0, Nat.zero_le _, rfl, rfl⟩
  case round =>
    obtain ⟨k, hk, rfl, rfl⟩ := hrel
    by_cases hlt : k < l.length
    · have hki : (k : Int) < (l.length : Int) := by omega
      have hc := KC.out k hlt
      have KF := Kept.mk (take_fold l hlt)
      have e2 : IntKind.i64.wrap ((k : Int) + 1) = (k : Int) + 1 := by rw [IntKind.wrap_i64]; omega
      generalize l.getD k 0 = e at *
      generalize (l.take k).foldl lsF 0 = m at *
      by_cases h2 : m = 0
      · have KE : Kept (lsF m e = e) := ⟨by
          rw [lsF_eq, if_pos h2]
          split
          · omega
          · rfl⟩
        have b2 : (m == 0) = true := by simpa using h2
        clear h2
        go_wp2
        go_round
        case rel => exact ⟨k + 1, by omega, by go_num, by rw [KF.out, KE.out]⟩
        case measure => simp [intOf]; omega
      · have b2 : (m == 0) = false := by simpa using h2
        by_cases h1 : e = 0
        · have KE : Kept (lsF m e = m) := ⟨by rw [lsF_eq, if_pos h1]⟩
          have b1 : (e != 0) = false := by simpa using h1
          clear h1 h2
          go_wp2
          go_round
          case rel => exact ⟨k + 1, by omega, by go_num, by rw [KF.out, KE.out]⟩
          case measure => simp [intOf]; omega
        · have b1 : (e != 0) = true := by simpa using h1
          by_cases h3 : e < m
          · have KE : Kept (lsF m e = e) := ⟨by rw [lsF_eq, if_neg h1, if_neg h2, if_pos h3]⟩
            have b3 : decide (e < m) = true := decide_eq_true h3
            clear h1 h2 h3
            go_wp2
            go_round
            case rel => exact ⟨k + 1, by omega, by go_num, by rw [KF.out, KE.out]⟩
            case measure => simp [intOf]; omega
          · have KE : Kept (lsF m e = m) := ⟨by rw [lsF_eq, if_neg h1, if_neg h2, if_neg h3]⟩
            have b3 : decide (e < m) = false := decide_eq_false h3
            clear h1 h2 h3
            go_wp2
            go_round
            case rel => exact ⟨k + 1, by omega, by go_num, by rw [KF.out, KE.out]⟩
            case measure => simp [intOf]; omega
    · have hki : ¬ (k : Int) < (l.length : Int) := by omega
      have KF : Kept ((l.take k).foldl lsF 0 = l.foldl lsF 0) := ⟨by rw [List.take_of_length_le (by omega)]⟩
      generalize (l.take k).foldl lsF 0 = m at *
      go_wp2
      go_ret
      exact ⟨by rw [← KF.out]; rfl, rfl⟩
def othF (p : ByteArray) (e : SlC) : Bool := !decide (e.pt = p)
theorem str_neq (a b : ByteArray) : (!(a.toList == b.toList)) = !decide (a = b) := by
  by_cases h : a = b
  · subst h; simp
  · have hn : ¬ a.toList = b.toList := fun h2 => h (by
      rw [Lib.toList_data, Lib.toList_data] at h2
      have := Array.toList_inj.1 h2
      cases a; cases b
      simp only at this
      rw [this])
    rw [decide_eq_false h]
    simp [hn]
set_option maxHeartbeats 1000000 in
set_option maxRecDepth 100000 in
theorem another_any {e : SlC} (he : e.ok) (p : ByteArray) (pb : Nat) (w : World) (hpb : pb < w.heap.size) (hp : w.cell? ⟨pb, 0, none⟩ = some (.string p)) :
    Calls Tryd.prog 58 #[.agg e.l.toArray, .pointer (some ⟨pb, 0, none⟩)] w fun x w' => x = .returned (.bool (othF p e)) ∧ Below w.heap.size w w' := by
  obtain ⟨w1, hw1, hB1, hz1, -, hc⟩ := SlC.box w he
  obtain ⟨c0, -⟩ := hc w1 (CC.refl _)
  have c1 : w1.cell? ⟨pb, 0, none⟩ = some (.string p) := by rw [hB1.cell (p := ⟨pb, 0, none⟩) hpb]; exact hp
  have hs := str_neq e.pt p
  have KF : Kept (othF p e = !decide (e.pt = p)) := ⟨rfl⟩
  have KB := Kept.mk hB1
  obtain ⟨q, hq⟩ : ∃ q, (!decide (e.pt = p)) = q := ⟨_, rfl⟩
  rw [hq] at hs KF
  have Khs := Kept.mk hs
  clear hs
  clear hc hB1 hp hq he
  generalize e.l.toArray = EL at *
  go_enter Tryd.func58, Tryd.ntmps58
  go_wp2
  go_ret
  exact ⟨by rw [KF.out, ← Khs.out]; rfl, KB.out⟩
set_option maxHeartbeats 400000 in
set_option maxRecDepth 100000 in
theorem indexFunc_another (v : Value) (es : List SlC) (p : ByteArray) (pb : Nat) (w : World) (hpb : pb < w.heap.size) (hp : w.cell? ⟨pb, 0, none⟩ = some (.string p)) (hr : RdZ w v es) (hl : es.length ≤ 4398046511104) :
    Calls Tryd.prog 52 #[v, .func (.func 58) #[] #[.pointer (some ⟨pb, 0, none⟩)]] w fun e w' => ∃ r, e = .returned (.int .i64 r) ∧ IxOk (othF p) es r ∧ Below w.heap.size w w' := by
  obtain ⟨a, c, rfl, hlc, hok, hrd⟩ := hr
  have KR := Kept.mk hrd
  have KK := Kept.mk hok
  have KQ0 : Kept (∀ (e : SlC) (W : World), e.ok → Below w.heap.size w W → Calls Tryd.prog 58 #[.agg e.l.toArray, .pointer (some ⟨pb, 0, none⟩)] W fun x w' => x = .returned (.bool ((othF p) e)) ∧ Below W.heap.size W w') := ⟨fun e W he hW => another_any he p pb W (by have := hW.size; omega) (by rw [hW.cell (p := ⟨pb, 0, none⟩) hpb]; exact hp)⟩
  clear hrd hok hp
  go_enter Tryd.func52, Tryd.ntmps52
  go_wp2
  go_loopw [4, 8] (fun _ kv wr => ∃ k : Nat, k ≤ es.length ∧ kv = .int .i64 k ∧ (es.take k).any (othF p) = false ∧ Below w.heap.size w wr) (fun _ kv _ => es.length - (intOf kv).toNat)
  case atStart => exact ⟨0, Nat.zero_le _, rfl, rfl, Below.refl _ _⟩
  case round =>
    obtain ⟨k, hk, rfl, hall, hbel⟩ := hrel
    have KBr := Kept.mk hbel
    have KA := Kept.mk hall
    clear hall
    by_cases hlt : k < es.length
    · have hki : (k : Int) < (es.length : Int) := by omega
      obtain ⟨b, off, rfl, hbl, hrg⟩ := KR.out (by omega)
      have hR : Kept (wr.rangeAt b (off + k * 37) (es[k]'hlt).l) := ⟨fun j u hu => by
        rw [hbel.cell (p := ⟨b, off + k * 37 + j, none⟩) hbl]
        exact hrg k hlt j u hu⟩
      have hko := KK.out _ (List.getElem_mem hlt)
      have KI := Kept.mk (SlC.info hko)
      obtain ⟨q1, hq1⟩ : ∃ q1, (othF p) (es[k]'hlt) = q1 := ⟨_, rfl⟩
      have KF := KQ0.out (es[k]'hlt) wr hko hbel
      rw [hq1] at KF
      have KF := Kept.mk KF
      have KQ := Kept.mk hq1
      clear hbel hrg hko hq1
      generalize (es[k]'hlt).l = L at *
      go_wp2_with (first | (refine wpList_load_mid rfl 41 _ rfl b (off + k * 37) rfl L _ hR.out Tryd.underlying41 rfl KI.out ?_))
      refine Calls.mono KF.out (fun e w1 hp => ?_)
      obtain ⟨rfl, hb⟩ := hp
      have KB := Kept.mk (KBr.out.trans (hb.mono KBr.out.size))
      clear hb KF
      cases q1 with
      | true =>
        go_wp2
        go_ret
        exact ⟨_, rfl, .inl ⟨by omega, List.any_eq_true.2 ⟨_, List.getElem_mem hlt, KQ.out⟩⟩, KB.out⟩
      | false =>
        go_wp2
        go_roundw
        case rel => exact ⟨k + 1, by omega, rfl, any_step _ es hlt KA.out KQ.out, KB.out⟩
        case measure => simp [intOf]; omega
    · have hki : ¬ (k : Int) < (es.length : Int) := by omega
      have KT : Kept (es.any (othF p) = false) := ⟨by have := KA.out; rwa [List.take_of_length_le (by omega)] at this⟩
      clear hbel
      go_wp2
      go_ret
      exact ⟨_, rfl, .inr ⟨rfl, KT.out⟩, KBr.out⟩
set_option maxHeartbeats 400000 in
set_option maxRecDepth 100000 in
theorem containsFunc_another (v : Value) (es : List SlC) (p : ByteArray) (pb : Nat) (w : World) (hpb : pb < w.heap.size) (hp : w.cell? ⟨pb, 0, none⟩ = some (.string p)) (hr : RdZ w v es) (hl : es.length ≤ 4398046511104) :
    Calls Tryd.prog 25 #[v, .func (.func 58) #[] #[.pointer (some ⟨pb, 0, none⟩)]] w fun e w' => e = .returned (.bool (es.any (othF p))) ∧ Below w.heap.size w w' := by
  have K1 := Kept.mk (indexFunc_another v es p pb w hpb hp hr hl)
  clear hr hp
  go_enter Tryd.func25, Tryd.ntmps25
  go_wp2_with fail
  refine Calls.mono K1.out (fun e w1 hp => ?_)
  obtain ⟨r, rfl, hx, hb⟩ := hp
  have KB := Kept.mk hb
  clear hb K1
  rcases hx with ⟨h0, h1⟩ | ⟨rfl, h1⟩
  · have KH := Kept.mk h1
    clear h1
    go_wp2
    go_ret
    exact ⟨by rw [KH.out]; simp, KB.out⟩
  · have KH := Kept.mk h1
    clear h1
    go_wp2
    go_ret
    exact ⟨by rw [KH.out]; rfl, KB.out⟩
set_option maxHeartbeats 1000000 in
set_option maxRecDepth 100000 in
theorem setName_any (p : ByteArray) (v : Value) (ws : List SlC) (w : World) (hg : Gl w) (hr : RdZ w v ws) (hl : ws.length ≤ 4398046511104) :
    Calls Tryd.prog 35 #[.string p, v] w fun e w' => ∃ E, e = .returned (.int .i64 E) ∧ (E = 0 → pathF p = true ∧ ∀ x ∈ ws, x.pt = p) ∧ Below w.heap.size w w' := by
  have hA : Below w.heap.size w (w.alloc (.cells #[.string p] 9)) := (Below.refl _ _).alloc (Nat.le_refl _) _
  obtain ⟨w1, hw1⟩ : ∃ w1, w.alloc (.cells #[.string p] 9) = w1 := ⟨_, rfl⟩
  have hc1 : w1.cell? ⟨w.heap.size, 0, none⟩ = some (.string p) := by rw [← hw1]; exact alloc_cell _ _ _ _ _ rfl
  have hs1 : w.heap.size < w1.heap.size := by rw [← hw1]; simp
  rw [hw1] at hA
  have KB1 := Kept.mk hA
  have KP := Kept.mk (path_any p w1 (hg.later hA))
  have KC : Kept (∀ W, Below w1.heap.size w1 W → Calls Tryd.prog 25 #[v, .func (.func 58) #[] #[.pointer (some ⟨w.heap.size, 0, none⟩)]] W fun e w' => e = .returned (.bool (ws.any (othF p))) ∧ Below W.heap.size W w') := ⟨fun W hW => containsFunc_another v ws p w.heap.size W (by have := hW.size; omega) (by rw [hW.cell (p := ⟨w.heap.size, 0, none⟩) hs1]; exact hc1) (hr.later (hA.trans (hW.mono hA.size))) hl⟩
  have KAny : Kept (ws.any (othF p) = false → ∀ x ∈ ws, x.pt = p) := ⟨fun h x hx => by
    rw [List.any_eq_false] at h
    have := h x hx
    unfold othF at this
    simpa using this⟩
  obtain ⟨an, han⟩ : ∃ an, ws.any (othF p) = an := ⟨_, rfl⟩
  rw [han] at KC KAny
  obtain ⟨pf, hpf⟩ : ∃ pf, pathF p = pf := ⟨_, rfl⟩
  rw [hpf] at KP
  have Kpf := Kept.mk hpf
  obtain ⟨a, c, hv, hlc, -⟩ := hr
  subst hv
  clear hA hs1 han hpf hg
  go_enter Tryd.func35, Tryd.ntmps35
  go_wp2_with fail
  try rw [hw1]
  clear hw1
  refine Calls.mono KP.out (fun x w2 hp2 => ?_)
  obtain ⟨rfl, hb2⟩ := hp2
  have KB2 := Kept.mk (KB1.out.trans (hb2.mono KB1.out.size))
  have KC2 := Kept.mk (KC.out w2 hb2)
  clear hb2 KP KC
  cases pf with
  | false =>
    go_wp2
    go_ret
    exact ⟨_, rfl, fun h => absurd h (by decide), KB2.out⟩
  | true =>
    go_wp2_with fail
    refine Calls.mono KC2.out (fun x w3 hp3 => ?_)
    obtain ⟨rfl, hb3⟩ := hp3
    have KB3 := Kept.mk (KB2.out.trans (hb3.mono KB2.out.size))
    clear hb3
    cases an with
    | true =>
      go_wp2
      go_ret
      exact ⟨_, rfl, fun h => absurd h (by decide), KB3.out⟩
    | false =>
      go_wp2
      go_ret
      exact ⟨_, rfl, fun _ => ⟨Kpf.out, KAny.out trivial⟩, KB3.out⟩
end Go.Proofs.YthkaohkondkhgaaDoor
