/-
  The walk of NumMemory.
-/
import Derived.Test.YtpleamahaogfiabW16
namespace Go.Proofs.Ytpleamahaogfiab
open Go.RowKit

theorem chainM {a b c : World} (h : Below a.heap.size a b) (k : Below b.heap.size b c) : Below a.heap.size a c := h.trans (k.mono h.size)

/-- wr is W but for cells of blocks from lo to hdr, other than gb. -/
def Inv (lo gb hdr : Nat) (W wr : World) : Prop :=
  (∀ p, (W.cell? p).isSome = true → (wr.cell? p).isSome = true) ∧ (∀ p, wr.frozen? p = W.frozen? p) ∧ (∀ k, ¬ (lo ≤ k ∧ k < hdr ∧ k ≠ gb) → wr.heap[k]? = W.heap[k]?) ∧ wr.os = W.os ∧ wr.tape = W.tape ∧ wr.output = W.output ∧ wr.heap.size = W.heap.size

theorem Inv.refl (lo gb hdr : Nat) (W : World) : Inv lo gb hdr W W := ⟨fun _ h => h, fun _ => rfl, fun _ _ => rfl, rfl, rfl, rfl, rfl⟩

theorem Inv.set {lo gb hdr : Nat} {W wr : World} (h : Inv lo gb hdr W wr) {g i : Nat} (h1 : lo ≤ g) (h2 : g < hdr) (h3 : g ≠ gb) (u : Value) : Inv lo gb hdr W (wr.setCell ⟨g, i, none⟩ u) := by
  obtain ⟨a1, a2, a3, a4, a5, a6, a7⟩ := h
  refine ⟨fun p hp => ?_, fun p => by rw [World.frozen?_setCell]; exact a2 p, fun k hk => ?_, a4, a5, a6, by simpa [World.setCell] using a7⟩
  · have hs := a1 p hp
    obtain ⟨x, hx⟩ := Option.isSome_iff_exists.1 hs
    obtain ⟨y, hy⟩ := cell?_setCell_some (w := wr) (p := ⟨g, i, none⟩) (x := u) (q := p) (v := x) hx
    rw [hy]
    rfl
  · rw [Below.heap_setCell _ _ _ _ (fun e => hk (by subst e; exact ⟨h1, h2, h3⟩))]
    exact a3 k hk

theorem Inv.below {lo gb hdr : Nat} {W wr : World} (h : Inv lo gb hdr W wr) : Below lo W wr := by
  obtain ⟨a1, a2, a3, a4, a5, a6, a7⟩ := h
  exact ⟨a4, a5, a6, by omega, fun k hk => a3 k (by omega)⟩

/-- A slice that may be written. -/
def Wok (lo gb hdr : Nat) (W : World) (l : Value) : Prop :=
  ∃ g n cap, l = .slice (some ⟨g, 0, none⟩) n cap ∧ lo ≤ g ∧ g < hdr ∧ g ≠ gb ∧ n ≤ 140737488355328 ∧ ∀ i, i < n → (W.cell? ⟨g, i, none⟩).isSome = true ∧ W.frozen? ⟨g, i, none⟩ = false

theorem Own.wok {w W : World} {lo gb hdr base B : Nat} {v : Value} {xs : List Int} (h : Own 5 w base v xs) (h0 : 0 < xs.length) (hn : xs.length ≤ 140737488355328) (hb : Below B w W) (hB : w.heap.size ≤ B) (h1 : lo ≤ base) (h2 : w.heap.size ≤ hdr) (h3 : w.heap.size ≤ gb ∨ gb < base) : Wok lo gb hdr W v := by
  obtain ⟨g, cap, hv, g1, g2, g3, g4, g5⟩ := h.open h0
  refine ⟨g, xs.length, cap, hv, by omega, by omega, by omega, hn, fun i hi => ⟨?_, ?_⟩⟩
  · rw [hb.cell (p := ⟨g, i, none⟩) (Nat.lt_of_lt_of_le g2 hB), g4 i hi]
    rfl
  · rw [hb.frozen (p := ⟨g, i, none⟩) (Nat.lt_of_lt_of_le g2 hB), g5 i]

theorem five {W : World} {lo gb hdr : Nat} {l0 l1 l2 l3 l4 : Value} (h0 : Wok lo gb hdr W l0) (h1 : Wok lo gb hdr W l1) (h2 : Wok lo gb hdr W l2) (h3 : Wok lo gb hdr W l3) (h4 : Wok lo gb hdr W l4) (k : Nat) (hk : k < 5) : Wok lo gb hdr W (#[l0, l1, l2, l3, l4].getD k undef) := by
  have : k = 0 ∨ k = 1 ∨ k = 2 ∨ k = 3 ∨ k = 4 := by omega
  rcases this with rfl | rfl | rfl | rfl | rfl <;> assumption

theorem hdr_cell (w : World) (cs : Array Value) (t : TypeId) (k : Nat) (h : k < cs.size) : (w.alloc (.cells cs t)).cell? ⟨w.heap.size, k, none⟩ = some (cs.getD k undef) := by
  simp [Array.getD, h]

theorem form_pos {xs l : List Int} (h : SpanForm l) : 0 < (xs ++ l).length := by
  cases l with
  | nil => cases h
  | cons c r => simp; omega

theorem Rd.inv {W wr : World} {gb n c : Nat} {L : List Int} (h : Rd W (.slice (some ⟨gb, 0, none⟩) n c) L) (hb : wr.heap[gb]? = W.heap[gb]?) (hs : wr.heap.size = W.heap.size) : Rd wr (.slice (some ⟨gb, 0, none⟩) n c) L := by
  obtain ⟨a, c', hv, h1, h2, h3, h4, h5⟩ := h
  refine ⟨a, c', hv, h1, h2, h3, h4, fun h0 => ?_⟩
  obtain ⟨b, off, ha, hlt, hc⟩ := h5 h0
  refine ⟨b, off, ha, by omega, fun i hi => ?_⟩
  injection hv with e1
  rw [ha] at e1
  injection e1 with e1
  injection e1 with e4 _
  subst e4
  rw [World.cell?_of_block (w := W) (w' := wr) (a := ⟨gb, off + i, none⟩) hb]
  exact hc i hi

set_option maxHeartbeats 4000000 in
theorem numMemory_walk (v : Value) (xs : List Int) (x : Int) (w : World) (r0 : Rd w v xs) (hx0 : 0 ≤ x) (hx1 : x < 18446744073709551616) (hl : xs.length + 20 ≤ 140737488355328) :
    Calls Try.prog 8 #[v, .int .u64 x] w fun e w' => e = .returned (.bool true) ∧ Below w.heap.size w w' := by
  go_enter Try.func8, Try.ntmps8
  go_wp2_with fail
  refine Calls.mono (awake_any w) (fun e w1 hp => ?_)
  obtain ⟨rfl, H1⟩ := hp
  have r1 := r0.later H1 (Nat.le_refl _)
  go_wp2_with fail
  refine Calls.mono (spare_any v xs w1 r1 hl) (fun e w2 hp => ?_)
  obtain ⟨g, cap, rfl, of2, hb2⟩ := hp
  have r2 := r1.later hb2 (Nat.le_refl _)
  have hAs : AllB (spareL xs) := r1.allB.append allB4
  have rf2 := Rd.own of2 hAs
  have rx2 : Rd w2 (.slice (some ⟨g, 0, none⟩) xs.length cap) xs := by
    have hf' : Rd w2 (.slice (some ⟨g, 0, none⟩) (spareL xs).length cap) (spareL xs) := by rw [spareL_length]; exact rf2
    have := hf'.sub 0 xs.length (by rw [spareL_length]; omega) (by rw [spareL_length]; omega)
    simpa [spareL] using this
  clear r0
  go_wp2_with fail
  refine Calls.mono (putSize_any _ xs x w2 rx2 hx0 hx1 (by omega)) (fun e w3 hp => ?_)
  obtain ⟨va, rfl, oa, hb3⟩ := hp
  have rx3 := rx2.later hb3 (Nat.le_refl _)
  clear rx2
  go_wp2_with fail
  refine Calls.mono (putSize_any _ xs x w3 rx3 hx0 hx1 (by omega)) (fun e w4 hp => ?_)
  obtain ⟨vb, rfl, ob, hb4⟩ := hp
  have rx4 := rx3.later hb4 (Nat.le_refl _)
  clear rx3
  go_wp2_with fail
  refine Calls.mono (putBig_ok _ xs 5 3 w4 rx4 (by omega) (by omega) (by omega) (by omega) (by decide) (by omega)) (fun e w5 hp => ?_)
  obtain ⟨vc, rfl, oc, hb5⟩ := hp
  have rx5 := rx4.later hb5 (Nat.le_refl _)
  clear rx4
  go_wp2_with fail
  refine Calls.mono (putSpan_any _ xs x w5 rx5 hx0 hx1 (by omega)) (fun e w6 hp => ?_)
  obtain ⟨vd, rfl, od, hb6⟩ := hp
  have rx6 := rx5.later hb6 (Nat.le_refl _)
  clear rx5
  go_wp2_with fail
  refine Calls.mono (putHead_ok _ xs 1 x w6 rx6 (by omega) (by omega) hx0 hx1 (by omega)) (fun e w7 hp => ?_)
  obtain ⟨vf, rfl, oh, hb7⟩ := hp
  clear rx6
  have B27 : Below w2.heap.size w2 w7 := hb3.trans ((hb4.mono hb3.size).trans ((hb5.mono (Nat.le_trans hb3.size hb4.size)).trans ((hb6.mono (Nat.le_trans hb3.size (Nat.le_trans hb4.size hb5.size))).trans (hb7.mono (Nat.le_trans hb3.size (Nat.le_trans hb4.size (Nat.le_trans hb5.size hb6.size)))))))
  go_wp2_with fail
  refine Calls.mono (kept_any v xs g cap w7 (r2.later B27 (Nat.le_refl _)) (rf2.later B27 (Nat.le_refl _)) hl) (fun e w8 hp => ?_)
  obtain ⟨rfl, hb8⟩ := hp
  have z12 := hb2.size
  have z23 := hb3.size
  have z34 := hb4.size
  have z45 := hb5.size
  have z56 := hb6.size
  have z67 := hb7.size
  have z78 := hb8.size
  have hls := sizeL_length x
  have hlp := spanL_length x
  have hlh := headL_length 1 x
  obtain ⟨gb, cb, hvb, gb1, gb2, -, -, -⟩ := ob.open (form_pos (sizeL_form x hx0 hx1).1)
  have hAb : AllB (xs ++ sizeL x) := r2.allB.append (sizeL_allB x hx0 hx1)
  have C78 : ∀ o, Below w7.heap.size w7 (w8.alloc o) := fun o => hb8.alloc hb8.size o
  have C68 : ∀ o, Below w6.heap.size w6 (w8.alloc o) := fun o => hb7.trans ((C78 o).mono z67)
  have C58 : ∀ o, Below w5.heap.size w5 (w8.alloc o) := fun o => hb6.trans ((C68 o).mono z56)
  have C48 : ∀ o, Below w4.heap.size w4 (w8.alloc o) := fun o => hb5.trans ((C58 o).mono z45)
  have C38 : ∀ o, Below w3.heap.size w3 (w8.alloc o) := fun o => hb4.trans ((C48 o).mono z34)
  have C28 : ∀ o, Below w2.heap.size w2 (w8.alloc o) := fun o => hb3.trans ((C38 o).mono z23)
  have kf := fun o => of2.wok (lo := w1.heap.size) (gb := gb) (hdr := w8.heap.size) (by rw [spareL_length]; omega) (by rw [spareL_length]; omega) (C28 o) (Nat.le_refl _) (Nat.le_refl _) (by omega) (Or.inl (by omega))
  have ka := fun o => oa.wok (lo := w1.heap.size) (gb := gb) (hdr := w8.heap.size) (form_pos (sizeL_form x hx0 hx1).1) (by rw [List.length_append]; omega) (C38 o) (Nat.le_refl _) (by omega) (by omega) (Or.inl (by omega))
  have kc := fun o => oc.wok (lo := w1.heap.size) (gb := gb) (hdr := w8.heap.size) (by rw [List.length_append, bigF_length]; omega) (by rw [List.length_append, bigF_length]; omega) (C58 o) (Nat.le_refl _) (by omega) (by omega) (Or.inr (by omega))
  have kd := fun o => od.wok (lo := w1.heap.size) (gb := gb) (hdr := w8.heap.size) (form_pos (spanL_form x)) (by rw [List.length_append]; omega) (C68 o) (Nat.le_refl _) (by omega) (by omega) (Or.inr (by omega))
  have kh := fun o => oh.wok (lo := w1.heap.size) (gb := gb) (hdr := w8.heap.size) (form_pos (headL_form 1 x (by omega) (by omega) hx0 hx1).1) (by rw [List.length_append]; omega) (C78 o) (Nat.le_refl _) (by omega) (by omega) (Or.inr (by omega))
  have rb8 : ∀ o, Rd (w8.alloc o) vb (xs ++ sizeL x) := fun o => (Rd.own ob hAb).later (C48 o) (Nat.le_refl _)
  have B18 : ∀ o, Below w1.heap.size w1 (w8.alloc o) := fun o => hb2.trans ((C28 o).mono z12)
  have H8 : ∀ o, Below w.heap.size w (w8.alloc o) := fun o => H1.trans ((hb2.trans ((C28 o).mono z12)).mono H1.size)
  have hgbh : gb < w8.heap.size := by omega
  have HB : Hid (vb = .slice (some ⟨gb, 0, none⟩) (xs ++ sizeL x).length cb) := hvb
  obtain ⟨ga, na, ca, rfl, -⟩ := ka (.cells #[] 0)
  obtain ⟨gc, nc, cc, rfl, -⟩ := kc (.cells #[] 0)
  obtain ⟨gd, nd, cd, rfl, -⟩ := kd (.cells #[] 0)
  obtain ⟨gh, nh, ch, rfl, -⟩ := kh (.cells #[] 0)
  clear C78 C68 C58 C48 C38 C28 hb2 hb3 hb4 hb5 hb6 hb7 hb8 B27 oa ob oc od oh of2 rf2 r2 hls hlp hlh hvb hAs hAb
  go_wp2_with fail
  have hcell := fun k hk => hdr_cell w8 #[.slice (some ⟨g, 0, none⟩) (xs.length + 4) cap, .slice (some ⟨ga, 0, none⟩) na ca, .slice (some ⟨gc, 0, none⟩) nc cc, .slice (some ⟨gd, 0, none⟩) nd cd, .slice (some ⟨gh, 0, none⟩) nh ch] 22 k hk
  have kall := fun k hk => five (kf (.cells #[.slice (some ⟨g, 0, none⟩) (xs.length + 4) cap, .slice (some ⟨ga, 0, none⟩) na ca, .slice (some ⟨gc, 0, none⟩) nc cc, .slice (some ⟨gd, 0, none⟩) nd cd, .slice (some ⟨gh, 0, none⟩) nh ch] 22)) (ka _) (kc _) (kd _) (kh _) k hk
  have rbW := rb8 (.cells #[.slice (some ⟨g, 0, none⟩) (xs.length + 4) cap, .slice (some ⟨ga, 0, none⟩) na ca, .slice (some ⟨gc, 0, none⟩) nc cc, .slice (some ⟨gd, 0, none⟩) nd cd, .slice (some ⟨gh, 0, none⟩) nh ch] 22)
  have BW := B18 (.cells #[.slice (some ⟨g, 0, none⟩) (xs.length + 4) cap, .slice (some ⟨ga, 0, none⟩) na ca, .slice (some ⟨gc, 0, none⟩) nc cc, .slice (some ⟨gd, 0, none⟩) nd cd, .slice (some ⟨gh, 0, none⟩) nh ch] 22)
  generalize w8.alloc (.cells #[.slice (some ⟨g, 0, none⟩) (xs.length + 4) cap, .slice (some ⟨ga, 0, none⟩) na ca, .slice (some ⟨gc, 0, none⟩) nc cc, .slice (some ⟨gd, 0, none⟩) nd cd, .slice (some ⟨gh, 0, none⟩) nh ch] 22) = W at *
  generalize w8.heap.size = hd at *
  have HCL : Hid _ := hcell
  have HKA : Hid _ := kall
  clear kf ka kc kd kh rb8 B18 H8 hcell kall
  go_loopw [55] (fun i wr => ∃ k : Nat, k ≤ 5 ∧ i = .int .i64 k ∧ Inv w1.heap.size gb hd W wr) (fun i _ => 5 - (intOf i).toNat)
  case atStart => exact ⟨0, by omega, rfl, Inv.refl _ _ _ _⟩
  case round =>
    obtain ⟨k, hk, rfl, hinv⟩ := hrel
    by_cases hlt : k < 5
    · rename World => wq
      have hc1 : wq.cell? ⟨hd, k, none⟩ = _ := (World.cell?_of_block (w := W) (w' := wq) (a := ⟨hd, k, none⟩) (hinv.2.2.1 hd (by omega))).trans (HCL.out k hlt)
      obtain ⟨gl, nl, cl, hlv, l1, l2, l3, l4, l5⟩ := HKA.out k hlt
      rw [hlv] at hc1
      have HL5 : Hid (∀ i, i < nl → (W.cell? ⟨gl, i, none⟩).isSome = true ∧ W.frozen? ⟨gl, i, none⟩ = false) := l5
      clear hlv l5
      go_wp2_with fail
      go_loopw [61] (fun i wr => ∃ j : Nat, j ≤ nl ∧ i = .int .i64 j ∧ Inv w1.heap.size gb hd W wr) (fun i _ => nl - (intOf i).toNat)
      case atStart => exact ⟨0, Nat.zero_le _, rfl, hinv⟩
      case round =>
        obtain ⟨j, hj, rfl, hinv2⟩ := hrel
        by_cases hlt2 : j < nl
        · obtain ⟨y, hy⟩ := Option.isSome_iff_exists.1 (hinv2.1 _ (HL5.out j hlt2).1)
          have hfz : wr.frozen? ⟨gl, j, none⟩ = false := by rw [hinv2.2.1]; exact (HL5.out j hlt2).2
          go_wp2
          go_roundw
          case rel => exact ⟨j + 1, by omega, by go_num, hinv2.set l1 l2 l3 _⟩
          case measure => simp [intOf]; omega
        · go_wp2
          go_roundw
          case rel => exact ⟨k + 1, by omega, by go_num, hinv2⟩
          case measure => simp [intOf]; omega
    · have BR : Below w1.heap.size w1 wr := BW.trans hinv.below
      have rv : Rd wr v xs := r1.later BR (Nat.le_refl _)
      have rb : Rd wr vb (xs ++ sizeL x) := by
        rw [HB.out] at rbW ⊢
        exact rbW.inv (hinv.2.2.1 gb (by omega)) hinv.2.2.2.2.2.2
      go_wp2_with fail
      refine Calls.mono (docPutSize_rd v xs x _ rv hx0 hx1 hl) (fun e w9 hp => ?_)
      obtain ⟨vz, rfl, rz, hb9⟩ := hp
      have rb9 := rb.later hb9 (Nat.le_refl _)
      go_wp2_with fail
      refine Calls.mono (same_true vb vz (xs ++ sizeL x) _ rb9 rz) (fun e w10 hp => ?_)
      obtain ⟨rfl, hb10⟩ := hp
      go_wp2
      go_ret
      exact ⟨rfl, H1.trans ((BR.trans ((chainM hb9 hb10).mono BR.size)).mono H1.size)⟩
end Go.Proofs.Ytpleamahaogfiab
