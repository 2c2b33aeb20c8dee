/-
  Walks: Apply at hunks out of form; the law DiffFixed.
-/
import Derived.Test.YtjhcpmhjdhmjpaaFB1
import Derived.Test.YtjhcpmhjdhmjpaaLX6
import Derived.Test.YtjhcpmhjdhmjpaaVN
import Derived.Test.YtjhcpmhjdhmjpaaLT
namespace Go.Proofs.Ytjhcpmhjdhmjpaa
open Go.RowKit Go.Shelf

/-- The hunks that are not in form. -/
def hk6 : List (Nat × Nat × Nat × Nat) := [(4607182418800017408, 4607182418800017408, 4607182418800017408, 4607182418800017408), (4607182418800017408, 4607182418800017408, 4613937818241073152, 4611686018427387904), (4607182418800017408, 0, 4611686018427387904, 4607182418800017408), (4607182418800017408, 4607182418800017408, 4611686018427387904, 4607182418800017408), (4602678819172646912, 4602678819172646912, 4611686018427387904, 4611686018427387904), (13830554455654793216, 13830554455654793216, 4611686018427387904, 4611686018427387904)]
theorem bad_all (i : Nat) (hi : i < 6) : ∃ X Y U V, hk6[i]? = some (X, Y, U, V) ∧ ∀ (b o c : Nat) (w : World), (∀ W, Below w.heap.size w W → W.rangeAt b o [.complex .f64 X Y, .complex .f64 U V]) →
    Calls Try.prog 41 #[.slice (some ⟨b, o, none⟩) 1 c, pt 2 2] w fun e w' => e = .returned (.bool false) ∧ Below w.heap.size w w' := by
  match i, hi with
  | 0, _ => refine ⟨_, _, _, _, rfl, fun b o c w hr => ?_⟩; have h := inForm_bad0 b o c w; rw [fl_one] at h; exact h hr
  | 1, _ => refine ⟨_, _, _, _, rfl, fun b o c w hr => ?_⟩; have h := inForm_bad1 b o c w; rw [fl_one, fl_three, fl_two] at h; exact h hr
  | 2, _ => refine ⟨_, _, _, _, rfl, fun b o c w hr => ?_⟩; have h := inForm_bad2 b o c w; rw [fl_one, fl_zero, fl_two] at h; exact h hr
  | 3, _ => refine ⟨_, _, _, _, rfl, fun b o c w hr => ?_⟩; have h := inForm_bad3 b o c w; rw [fl_one, fl_two] at h; exact h hr
  | 4, _ => refine ⟨_, _, _, _, rfl, fun b o c w hr => ?_⟩; have h := inForm_bad4 b o c w; rw [fl_two] at h; exact h hr
  | 5, _ => refine ⟨_, _, _, _, rfl, fun b o c w hr => ?_⟩; have h := inForm_bad5 b o c w; rw [fl_two] at h; exact h hr
set_option maxHeartbeats 400000 in
set_option maxRecDepth 100000 in
theorem apply_bad (p q : Option Addr) (pc qc : Nat) (h : Value) (hp : Option Addr) (hn hc : Nat) (hh : h = .slice hp hn hc) (w : World) (hin : Calls Try.prog 41 #[h, pt 2 2] w fun e w' => e = .returned (.bool false) ∧ Below w.heap.size w w') :
    Calls Try.prog 24 #[.slice p 2 pc, .slice q 2 qc, h] w fun e w' => e = .returned (.tuple #[.slice none 0 0, .int .i64 4]) ∧ Below w.heap.size w w' := by
  subst hh
  have K1 := Kept.mk (tooLong_any p q 2 2 pc qc w)
  have K2 := Kept.mk (endOf_any p q 2 2 pc qc w)
  have K3 := Kept.mk hin
  have hlb : longB 2 2 = false := by decide
  rw [hlb] at K1
  clear hin hlb
  go_enter Try.func24, Try.ntmps24
  go_wp2_with fail
  refine Calls.mono K1.out (fun e w1 hp => ?_)
  obtain ⟨rfl, hw⟩ := hp
  subst w1
  clear K1
  go_wp2_with fail
  refine Calls.mono K2.out (fun e w1 hp => ?_)
  obtain ⟨rfl, hw⟩ := hp
  subst w1
  clear K2
  go_wp2_with fail
  refine Calls.mono K3.out (fun e w1 hp => ?_)
  obtain ⟨rfl, hB1⟩ := hp
  have KB1 := Kept.mk hB1
  clear K3 hB1
  go_wp2
  go_ret2
  exact ⟨rfl, KB1.out⟩
def fzB : ByteArray := ⟨#[122]⟩
theorem way_f : wayP [mX, mY] [mY, fzB] 0 0 = [(0, 0), (1, 0), (2, 1), (2, 2)] := by
  have h1 : mX ≠ fzB := by unfold mX fzB; intro h; injection h with h; exact absurd h (by decide)
  have h2 : mY ≠ fzB := by unfold mY fzB; intro h; injection h with h; exact absurd h (by decide)
  simp [wayP, rst_cons, rst_nil, rst_nil2, m_xy, h1, h2]
theorem tx_f : txP [mX, mY] [mY, fzB] [(0, 0), (1, 0), (2, 1), (2, 2)] = [45, 120, 10, 32, 121, 10, 43, 122, 10, 92, 10] := by kernel_rfl
set_option maxRecDepth 100000 in
theorem info_strZ : ∃ i, Try.prog.info? 9 = some i ∧ i.zero = some (.string ⟨#[]⟩) ∧ i.size = 1 ∧ i.bytes = 16 := ⟨_, rfl, rfl, rfl, rfl⟩
theorem made_strs {w : World} {base g n : Nat} (h : w.ownsRow base 9 1 (.slice (some ⟨g, 0, none⟩) n n) n (madeCells (Value.string ⟨#[]⟩).cells (n * 1)).toList) : RdS w (.slice (some ⟨g, 0, none⟩) n n) (List.replicate n ⟨#[]⟩) := by
  rw [made_cells _ _ rfl] at h
  have h2 : (List.replicate n (⟨#[]⟩ : ByteArray)).map Value.string = List.replicate n (Value.string ⟨#[]⟩) := by rw [List.map_replicate]
  unfold RdS
  rw [h2]
  exact ownsRow_rd (base := base) (T := 9) (by rw [List.length_replicate]; exact h)
theorem rep_size (n : Nat) : ∀ s ∈ List.replicate n (⟨#[]⟩ : ByteArray), s.size ≤ maxLen := by
  intro s hs
  rw [(List.mem_replicate.1 hs).2]
  decide
theorem inF_good : inF 2 2 (0, 0) true [((1, 1), (2, 2))] := by simp [inF]
theorem apP_good : apP [⟨#[112]⟩, ⟨#[113]⟩] [⟨#[112]⟩, ⟨#[114]⟩] 0 [((1, 1), (2, 2))] = [⟨#[112]⟩, ⟨#[114]⟩] := by kernel_rfl
theorem rdHk_good (w W : World) (hW : Below (w.alloc (.cells #[.complex .f64 4607182418800017408 4607182418800017408, .complex .f64 4611686018427387904 4611686018427387904] 47)).heap.size (w.alloc (.cells #[.complex .f64 4607182418800017408 4607182418800017408, .complex .f64 4611686018427387904 4611686018427387904] 47)) W) : RdHk W (.slice (some ⟨w.heap.size, 0, none⟩) 1 1) [((1, 1), (2, 2))] := by
  refine ⟨_, _, rfl, fun _ => ⟨w.heap.size, 0, rfl, ?_⟩⟩
  have e : hkV [((1, 1), (2, 2))] = [.complex .f64 4607182418800017408 4607182418800017408, .complex .f64 4611686018427387904 4611686018427387904] := by
    show [pt 1 1, pt 2 2] = _
    unfold pt
    rw [fl_one, fl_two]
    rfl
  rw [e]
  exact ((Bk.new w 47 [.complex .f64 4607182418800017408 4607182418800017408, .complex .f64 4611686018427387904 4611686018427387904]).far (hW.block _ (by simp))).range
def hkV6 : List Value := hk6.flatMap fun q => [.complex .f64 q.1 q.2.1, .complex .f64 q.2.2.1 q.2.2.2]
theorem hkV6_get {i X Y U V : Nat} (hi : i < 6) (h : hk6[i]? = some (X, Y, U, V)) : hkV6[i * 2]? = some (.complex .f64 X Y) ∧ hkV6[i * 2 + 1]? = some (.complex .f64 U V) := by
  match i, hi, h with
  | 0, _, h => injection h with h; injection h with h1 h; injection h with h2 h; injection h with h3 h4; subst h1 h2 h3 h4; exact ⟨rfl, rfl⟩
  | 1, _, h => injection h with h; injection h with h1 h; injection h with h2 h; injection h with h3 h4; subst h1 h2 h3 h4; exact ⟨rfl, rfl⟩
  | 2, _, h => injection h with h; injection h with h1 h; injection h with h2 h; injection h with h3 h4; subst h1 h2 h3 h4; exact ⟨rfl, rfl⟩
  | 3, _, h => injection h with h; injection h with h1 h; injection h with h2 h; injection h with h3 h4; subst h1 h2 h3 h4; exact ⟨rfl, rfl⟩
  | 4, _, h => injection h with h; injection h with h1 h; injection h with h2 h; injection h with h3 h4; subst h1 h2 h3 h4; exact ⟨rfl, rfl⟩
  | 5, _, h => injection h with h; injection h with h1 h; injection h with h2 h; injection h with h3 h4; subst h1 h2 h3 h4; exact ⟨rfl, rfl⟩
theorem ln_f : lnS [97, 10, 98] = [⟨#[97, 10]⟩, ⟨#[98]⟩] := by kernel_rfl
set_option maxHeartbeats 4000000 in
set_option maxRecDepth 100000 in
theorem fixed_walk (w : World) : Calls Try.prog 5 #[] w fun e w' => e = .returned (.bool true) ∧ Below w.heap.size w w' := by
  have K0 := Kept.mk (awake_any w)
  go_enter Try.func5, Try.ntmps5
  go_wp2_with fail
  refine Calls.mono K0.out (fun e w1 hp => ?_)
  obtain ⟨rfl, hb1⟩ := hp
  have KB1 := Kept.mk hb1
  clear hb1 K0
  have K1 := Kept.mk (way_any (.slice none 0 0) (.slice none 0 0) [] [] w1 (RdV.nil w1) (RdV.nil w1) (fun s h => by cases h) (fun s h => by cases h))
  go_wp2_with fail
  refine Calls.mono K1.out (fun e w2 hp => ?_)
  obtain ⟨hb2, hor⟩ := hp
  rcases hor with ⟨hL, -⟩ | ⟨-, v2, rfl, ho2⟩
  · exact absurd hL (by decide)
  rw [wayP_end] at ho2
  obtain ⟨g2, cap2, hv2, -, hcell2⟩ := ho2.open (by simp)
  rw [show ([((0 : Nat), (0 : Nat))] : List (Nat × Nat)).length = 1 from rfl] at hv2
  subst hv2
  have Kc2 : Kept (∀ W, Below w2.heap.size w2 W → W.cell? ⟨g2, 0, none⟩ = some (.complex .f64 0 0)) := ⟨fun W hW => by have h := hcell2 W hW 0 (0, 0) rfl; unfold pt at h; rw [fl_zero] at h; exact h⟩
  have KB2 := Kept.mk (KB1.out.trans (hb2.mono KB1.out.size))
  clear K1 hb2 ho2 hcell2
  have hXY : ∀ s ∈ [mX, mY], s.size ≤ maxLen := m_small (by simp)
  have hYZ : ∀ s ∈ [mY, fzB], s.size ≤ maxLen := by
    intro s hs
    rcases List.mem_cons.1 hs with rfl | hs
    · decide
    · rw [List.mem_singleton.1 hs]; decide
  obtain ⟨w3, hw3, hB3, hX3, hY3⟩ : ∃ W2, (w2.alloc (.cells #[.string mX, .string mY] 9)).alloc (.cells #[.string mY, .string fzB] 9) = W2 ∧ Below w2.heap.size w2 W2 ∧ RdS W2 (.slice (some ⟨w2.heap.size, 0, none⟩) 2 2) [mX, mY] ∧ RdS W2 (.slice (some ⟨w2.heap.size + 1, 0, none⟩) 2 2) [mY, fzB] := by
    have hs : (w2.alloc (.cells #[.string mX, .string mY] 9)).heap.size = w2.heap.size + 1 := by simp
    refine ⟨_, rfl, ((Below.refl _ _).alloc (Nat.le_refl _) _).alloc (by simp) _, (rdS_new w2 [mX, mY]).later ((Below.refl _ _).alloc (Nat.le_refl _) _) (Nat.le_refl _), ?_⟩
    have := rdS_new (w2.alloc (.cells #[.string mX, .string mY] 9)) [mY, fzB]
    rw [hs] at this
    exact this
  have K2 : Kept (Calls Try.prog 19 #[.slice (some ⟨w2.heap.size, 0, none⟩) 2 2, .slice (some ⟨w2.heap.size + 1, 0, none⟩) 2 2] w3 fun e w' => Below w3.heap.size w3 w' ∧ e = .returned (.tuple #[.string ⟨#[45, 120, 10, 32, 121, 10, 43, 122, 10, 92, 10]⟩, .int .i64 0])) := ⟨by
    have h := text_any _ _ _ _ w3 hX3 hY3 hXY hYZ (by simp) (by simp) (by rw [way_f]; simp) (by rw [way_f, tx_f]; simp)
    rw [way_f, tx_f] at h
    exact h⟩
  have KB3 := Kept.mk hB3
  have KW3 := Kept.mk hw3
  clear hB3 hX3 hY3 hXY hYZ hw3
  go_wp2_with fail
  have hw3 := KW3.out
  unfold mX mY fzB at hw3
  rw [hw3]
  clear hw3 KW3
  refine Calls.mono K2.out (fun e w4 hp => ?_)
  obtain ⟨hb4, rfl⟩ := hp
  have KB4 := Kept.mk (KB3.out.trans (hb4.mono KB3.out.size))
  clear hb4 K2 KB3
  obtain ⟨w5, cv5, rd5, bl5⟩ := lit_step w4 [97, 10, 98] (by simp)
  have cv5 : (convert 42 42 (.slice (some ⟨w4.heap.size, 0, none⟩) 3 3)).run Try.prog (w4.alloc (.cells #[.int .u8 97, .int .u8 10, .int .u8 98] 5)) = .ok (.slice (some ⟨w4.heap.size, 0, none⟩) 3 3) w5 := cv5
  have K3 := Kept.mk (lines_any _ [97, 10, 98] w5 rd5 (fun x hx => by simp at hx; omega) (by simp))
  rw [ln_f] at K3
  have KB5 := Kept.mk (KB4.out.trans (bl5.mono KB4.out.size))
  clear rd5 bl5 KB4
  go_wp2_with (rw [cv5])
  clear cv5
  refine Calls.mono K3.out (fun e w6 hp => ?_)
  obtain ⟨v6, rfl, ho6, hb6⟩ := hp
  obtain ⟨p6, c6, hv6⟩ := ho6.form
  subst hv6
  have KO6 := Kept.mk ho6.rd
  have KB6 := Kept.mk (KB5.out.trans (hb6.mono KB5.out.size))
  clear K3 ho6 hb6 KB5
  obtain ⟨i0, hi, hz, hsz, hbt⟩ := info_strZ
  have hb1 : i0.bytes * 1001 ≤ 281474976710656 := by rw [hbt]; decide
  have hb2 : 1001 ≤ maxLen := by decide
  have hb3 : i0.bytes * 1000 ≤ 281474976710656 := by rw [hbt]; decide
  have hb4 : 1000 ≤ maxLen := by decide
  go_wp2_with (at_make; refine wpList_make_full _ rfl _ _ 22 rfl w6.heap.size 9 i0 (.string ⟨#[]⟩) 1 Try.underlying22 hi hz hsz .i64 .i64 1001 1001 1001 rfl rfl rfl rfl hb1 hb2 (Nat.le_refl _) ?_; intro w7 hown hgrow; have K4 := Kept.mk (way_any _ (.slice none 0 0) _ [] w7 (made_strs hown) (RdV.nil w7) (rep_size _) (fun s h => by cases h)); have KB7 := Kept.mk ((Below.refl w6.heap.size w6).grown hgrow (Nat.le_refl _) (fun k hk => by cases hk)); clear hown hgrow)
  refine Calls.mono K4.out (fun e w8 hp => ?_)
  obtain ⟨hb8, hor⟩ := hp
  rcases hor with ⟨-, rfl⟩ | ⟨hL, -⟩
  rotate_left
  · exact absurd hL (by rw [List.length_replicate]; decide)
  have KB8 := Kept.mk (KB7.out.trans (hb8.mono KB7.out.size))
  clear hb8 K4 KB7
  go_wp2_with (at_make; refine wpList_make_full _ rfl _ _ 22 rfl w8.heap.size 9 i0 (.string ⟨#[]⟩) 1 Try.underlying22 hi hz hsz .i64 .i64 1000 1000 1000 rfl rfl rfl rfl hb3 hb4 (Nat.le_refl _) ?_; intro w9 hown hgrow; have K5 := Kept.mk (rest_any _ (.slice none 0 0) _ [] w9 (made_strs hown) (RdV.nil w9) (rep_size _) (fun s h => by cases h)); have KB9 := Kept.mk ((Below.refl w8.heap.size w8).grown hgrow (Nat.le_refl _) (fun k hk => by cases hk)); clear hown hgrow)
  refine Calls.mono K5.out (fun e w10 hp => ?_)
  obtain ⟨he, hb10⟩ := hp
  rw [if_neg (by rw [List.length_replicate]; decide), rst_nil2, List.length_replicate] at he
  subst he
  have KB10 := Kept.mk (KB8.out.trans ((KB9.out.trans (hb10.mono KB9.out.size)).mono KB8.out.size))
  rw [show ((1000 : Nat) : Int) = 1000 from rfl]
  clear hb10 K5 KB9 KB8 hi hz hsz hbt hb1 hb2 hb3 hb4
  obtain ⟨w11, hw11, hB11, hA11, hC11⟩ : ∃ W2, (w10.alloc (.cells #[.string ⟨#[112]⟩, .string ⟨#[113]⟩] 9)).alloc (.cells #[.string ⟨#[112]⟩, .string ⟨#[114]⟩] 9) = W2 ∧ Below w10.heap.size w10 W2 ∧ RdS W2 (.slice (some ⟨w10.heap.size, 0, none⟩) 2 2) [⟨#[112]⟩, ⟨#[113]⟩] ∧ RdS W2 (.slice (some ⟨w10.heap.size + 1, 0, none⟩) 2 2) [⟨#[112]⟩, ⟨#[114]⟩] := by
    have hs : (w10.alloc (.cells #[.string ⟨#[112]⟩, .string ⟨#[113]⟩] 9)).heap.size = w10.heap.size + 1 := by simp
    refine ⟨_, rfl, ((Below.refl _ _).alloc (Nat.le_refl _) _).alloc (by simp) _, (rdS_new w10 [⟨#[112]⟩, ⟨#[113]⟩]).later ((Below.refl _ _).alloc (Nat.le_refl _) _) (Nat.le_refl _), ?_⟩
    have := rdS_new (w10.alloc (.cells #[.string ⟨#[112]⟩, .string ⟨#[113]⟩] 9)) [⟨#[112]⟩, ⟨#[114]⟩]
    rw [hs] at this
    exact this
  have KA11 := Kept.mk hA11
  have KC11 := Kept.mk hC11
  have KB11 := Kept.mk hB11
  clear hA11 hC11 hB11
  go_upto_region 10 with fail
  try rw [hw11]
  have hs11 : w11.heap.size = w10.heap.size + 1 + 1 := by rw [← hw11]; simp
  generalize hw12 : World.alloc w11 _ = w12
  have KH : Kept (Bk w12 w11.heap.size 47 hkV6) := ⟨by rw [← hw12]; exact Bk.new w11 47 hkV6⟩
  have KB12 : Kept (Below w11.heap.size w11 w12) := ⟨by rw [← hw12]; exact (Below.refl _ _).alloc (Nat.le_refl _) _⟩
  try rw [← hs11]
  clear hw11 hw12 cv5
  obtain ⟨gH, hgH⟩ : ∃ g, w11.heap.size = g := ⟨_, rfl⟩
  rw [hgH] at KH
  try rw [hgH]
  have Khs := Kept.mk hs11
  have KgH := Kept.mk hgH
  clear hs11 hgH
  go_loopw [53] (fun iv wr => ∃ i : Nat, i ≤ 6 ∧ iv = .int .i64 i ∧ Below w12.heap.size w12 wr) (fun iv _ => 6 - (intOf iv).toNat)
  case atStart => exact ⟨0, Nat.zero_le _, rfl, Below.refl _ _⟩
  case round =>
    obtain ⟨i, hil, rfl, hbr⟩ := hrel
    have KBr := Kept.mk hbr
    by_cases hlt : i < 6
    · have hii : (i : Int) < 6 := by omega
      have m0 : (0 : Int) ≤ (i : Int) := by omega
      have m1 : IntKind.i64.wrap ((i : Int) + 1) = (i : Int) + 1 := wr64 (by omega) (by omega)
      obtain ⟨X, Y, U, V, hget, hbad⟩ := bad_all i hlt
      obtain ⟨g1, g2'⟩ := hkV6_get hlt hget
      have hHr := KH.out.far (hbr.block gH KH.out.lt)
      have r1 := hHr.cell _ _ g1
      have r2 := hHr.cell _ _ g2'
      have hR : wr.rangeAt gH (i * 2) [.complex .f64 X Y, .complex .f64 U V] := by
        intro j u hu
        match j, hu with
        | 0, hu => simp at hu; subst hu; exact r1
        | 1, hu => simp at hu; subst hu; exact r2
      have KRow := Kept.mk hR
      have KI : Kept ((Try.prog.info? 47).map (·.size) = some 2) := ⟨by kernel_rfl⟩
      have hB0 := Bk.new wr 47 [.complex .f64 0 0, .complex .f64 0 0]
      have hB1 := hB0.set 0 (.complex .f64 X Y)
      have hB2 := hB1.set 1 (.complex .f64 U V)
      have hst1 := run_store_c _ _ X Y _ (hB0.cell 0 _ rfl) (hB0.frozen 0)
      have hst2 := run_store_c _ _ U V _ (hB1.cell 1 _ rfl) (hB1.frozen 1)
      have hb1 : Below w12.heap.size w12 ((((wr.alloc (.cells #[.complex .f64 0 0, .complex .f64 0 0] 47)).setCell ⟨wr.heap.size, 0, none⟩ (.complex .f64 X Y)).setCell ⟨wr.heap.size, 1, none⟩ (.complex .f64 U V))) := ((hbr.alloc hbr.size _).setCell hbr.size _).setCell hbr.size _
      have ef : ([Value.complex .f64 0 0, .complex .f64 0 0] : List Value).toArray = #[.complex .f64 0 0, .complex .f64 0 0] := rfl
      rw [ef] at hst1 hst2 hB2
      have hB3 : Bk ((((wr.alloc (.cells #[.complex .f64 0 0, .complex .f64 0 0] 47)).setCell ⟨wr.heap.size, 0, none⟩ (.complex .f64 X Y)).setCell ⟨wr.heap.size, 1, none⟩ (.complex .f64 U V))) wr.heap.size 47 [.complex .f64 X Y, .complex .f64 U V] := hB2
      obtain ⟨u1, hu1⟩ : ∃ x, ((((wr.alloc (.cells #[.complex .f64 0 0, .complex .f64 0 0] 47)).setCell ⟨wr.heap.size, 0, none⟩ (.complex .f64 X Y)).setCell ⟨wr.heap.size, 1, none⟩ (.complex .f64 U V))) = x := ⟨_, rfl⟩
      rw [hu1] at hst2 hb1 hB3
      obtain ⟨u0, hu0⟩ : ∃ x, ((wr.alloc (.cells #[.complex .f64 0 0, .complex .f64 0 0] 47)).setCell ⟨wr.heap.size, 0, none⟩ (.complex .f64 X Y)) = x := ⟨_, rfl⟩
      rw [hu0] at hst1 hst2
      have KRow2 := Kept.mk hB3.range
      have KBu := Kept.mk hb1
      have hK := hbad u1.heap.size 0 1 (u1.alloc (.cells #[.complex .f64 X Y, .complex .f64 U V] 47)) (fun W hW => ((Bk.new u1 47 [.complex .f64 X Y, .complex .f64 U V]).far (hW.block _ (by simp))).range)
      have K1 := Kept.mk (apply_bad (some ⟨w10.heap.size, 0, none⟩) (some ⟨w10.heap.size + 1, 0, none⟩) 2 2 _ _ 1 1 rfl _ hK)
      have KBu2 := Kept.mk (hb1.alloc hb1.size (.cells #[.complex .f64 X Y, .complex .f64 U V] 47))
      clear hB0 hB1 hB2 hB3 hb1 hbr ef hu1 hu0 hR r1 r2 hHr g1 g2' hget hbad hK
      go_wp2_with (first | (refine wpList_load_mid rfl 47 _ rfl gH (i * 2) rfl [.complex .f64 X Y, .complex .f64 U V] _ KRow.out Try.underlying47 rfl KI.out ?_) | (refine wpList_load_mid rfl 47 _ rfl wr.heap.size 0 rfl [.complex .f64 X Y, .complex .f64 U V] _ KRow2.out Try.underlying47 rfl KI.out ?_))
      refine Calls.mono K1.out (fun e w13 hp => ?_)
      obtain ⟨rfl, hb13⟩ := hp
      have KB13 := Kept.mk (KBu2.out.trans (hb13.mono KBu2.out.size))
      clear hb13 K1
      go_wp2
      go_roundw
      case rel => exact ⟨i + 1, hlt, by go_num, KB13.out⟩
      case measure => simp [intOf]; omega
    · have hii : ¬ (i : Int) < 6 := by omega
      have KB1r := Kept.mk (KB11.out.trans ((KB12.out.trans (hbr.mono KB12.out.size)).mono KB11.out.size))
      have KB2r := Kept.mk (KB6.out.trans ((KB10.out.trans (KB1r.out.mono KB10.out.size)).mono KB6.out.size))
      have KB6r := Kept.mk (KB10.out.trans (KB1r.out.mono KB10.out.size))
      have KBra := Kept.mk ((KB12.out.trans (hbr.mono KB12.out.size)).alloc (Nat.le_trans KB12.out.size hbr.size) (.cells #[.complex .f64 4607182418800017408 4607182418800017408, .complex .f64 4611686018427387904 4611686018427387904] 47))
      have KBrb := Kept.mk ((Below.refl wr.heap.size wr).alloc (Nat.le_refl _) (.cells #[.complex .f64 4607182418800017408 4607182418800017408, .complex .f64 4611686018427387904 4611686018427387904] 47))
      have K1 := Kept.mk (apply_any (.slice (some ⟨w10.heap.size, 0, none⟩) 2 2) (.slice (some ⟨w10.heap.size + 1, 0, none⟩) 2 2) (.slice (some ⟨wr.heap.size, 0, none⟩) 1 1) [⟨#[112]⟩, ⟨#[113]⟩] [⟨#[112]⟩, ⟨#[114]⟩] [((1, 1), (2, 2))] (wr.alloc (.cells #[.complex .f64 4607182418800017408 4607182418800017408, .complex .f64 4611686018427387904 4611686018427387904] 47)) (by decide) (by decide) (fun W hW => KA11.out.later (KBra.out.trans (hW.mono KBra.out.size)) (Nat.le_refl _)) (fun W hW => KC11.out.later (KBra.out.trans (hW.mono KBra.out.size)) (Nat.le_refl _)) (fun W hW => rdHk_good wr W hW) (by decide) inF_good (fun s hs => by simp at hs; rcases hs with rfl | rfl <;> decide) (fun s hs => by simp at hs; rcases hs with rfl | rfl <;> decide))
      rw [apP_good] at K1
      clear hbr
      go_wp2_with fail
      refine Calls.mono K1.out (fun e w13 hp => ?_)
      obtain ⟨v13, rfl, ho13, hb13⟩ := hp
      obtain ⟨p13, c13, hv13⟩ := ho13.form
      subst hv13
      have KB13 := Kept.mk (KBrb.out.trans (hb13.mono KBrb.out.size))
      have KO13 := Kept.mk ho13.rd
      have KB2s := Kept.mk (KB2r.out.trans (KB13.out.mono KB2r.out.size))
      have hc13 := Kc2.out w13 KB2s.out
      have q00 : FloatKind.f64.format.order 0 0 = some .eq := by kernel_rfl
      have hbl : Below w13.heap.size w13 (w13.alloc (.cells #[.string ⟨#[97, 10]⟩, .string ⟨#[98]⟩] 9)) := (Below.refl _ _).alloc (Nat.le_refl _) _
      have K2 : Kept (Calls Try.prog 22 #[.slice p6 2 c6, .slice (some ⟨w13.heap.size, 0, none⟩) 2 2] (w13.alloc (.cells #[.string ⟨#[97, 10]⟩, .string ⟨#[98]⟩] 9)) fun e w' => e = .returned (.bool true) ∧ Below w13.heap.size w13 w') := ⟨by
        have h := sameLines_any _ _ [⟨#[97, 10]⟩, ⟨#[98]⟩] [⟨#[97, 10]⟩, ⟨#[98]⟩] (w13.alloc (.cells #[.string ⟨#[97, 10]⟩, .string ⟨#[98]⟩] 9)) ((KO6.out.later (KB6r.out.trans (KB13.out.mono KB6r.out.size)) (Nat.le_refl _)).later hbl (Nat.le_refl _)) (rdS_new w13 [⟨#[97, 10]⟩, ⟨#[98]⟩]) (by decide)
        rw [decide_eq_true rfl] at h
        exact h.mono (fun e w' hp => ⟨hp.1, hbl.trans (hp.2.mono hbl.size)⟩)⟩
      have qs : ((⟨#[45, 120, 10, 32, 121, 10, 43, 122, 10, 92, 10]⟩ : ByteArray).toList == (⟨#[45, 120, 10, 32, 121, 10, 43, 122, 10, 92, 10]⟩ : ByteArray).toList) = true := beq_self_eq_true _
      clear ho13 hb13 K1 hbl
      go_wp2_with fail
      refine Calls.mono K2.out (fun e w14 hp => ?_)
      obtain ⟨rfl, hb14⟩ := hp
      have KB14 := Kept.mk (KB13.out.trans (hb14.mono KB13.out.size))
      have K3 : Kept (Calls Try.prog 22 #[.slice p13 2 c13, .slice (some ⟨w10.heap.size + 1, 0, none⟩) 2 2] w14 fun e w' => e = .returned (.bool true) ∧ Below w14.heap.size w14 w') := ⟨by
        have h := sameLines_any _ _ [⟨#[112]⟩, ⟨#[114]⟩] [⟨#[112]⟩, ⟨#[114]⟩] w14 (KO13.out.later hb14 (Nat.le_refl _)) (KC11.out.later (KB12.out.trans ((KBr.out.trans (KB14.out.mono KBr.out.size)).mono KB12.out.size)) (Nat.le_refl _)) (by decide)
        rw [decide_eq_true rfl] at h
        exact h⟩
      clear hb14 K2
      go_wp2_with fail
      refine Calls.mono K3.out (fun e w15 hp => ?_)
      obtain ⟨rfl, hb15⟩ := hp
      have KB15 := Kept.mk (KB14.out.trans (hb15.mono KB14.out.size))
      have K4 := Kept.mk (lines_any (.slice none 0 0) [] w15 (Rd.nil .u8 anyB w15) AllIn.nil (by simp))
      rw [lnS_nil] at K4
      clear hb15 K3
      go_wp2_with fail
      refine Calls.mono K4.out (fun e w16 hp => ?_)
      obtain ⟨v16, rfl, ho16, hb16⟩ := hp
      obtain ⟨p16, c16, hv16⟩ := ho16.form
      rw [List.length_nil] at hv16
      subst hv16
      have KB16 := Kept.mk (KB2.out.trans ((KB2r.out.trans ((KB15.out.trans (hb16.mono KB15.out.size)).mono KB2r.out.size)).mono KB2.out.size))
      clear hb16 ho16 K4
      go_wp2
      go_ret
      exact ⟨rfl, KB16.out⟩
end Go.Proofs.Ytjhcpmhjdhmjpaa
