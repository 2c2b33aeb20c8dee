/-
  Walks of the document: SameLines, SameWay.
-/
import Derived.Test.YtidpdhnbnecddaaV9
namespace Go.Proofs.Ytidpdhnbnecddaa
open Go.RowKit

theorem take_grow {α : Type} {a b : List α} {k : Nat} {x y : α} (h : a.take k = b.take k) (hx : a[k]? = some x) (hy : b[k]? = some y) (e : x = y) : a.take (k + 1) = b.take (k + 1) := by
  rw [List.take_add_one, List.take_add_one, h, hx, hy, e]
set_option maxHeartbeats 1000000 in
set_option maxRecDepth 100000 in
theorem sameLines_any (v u : Value) (a b : List ByteArray) (w : World) (hv : RdS w v a) (hu : RdS w u b) (hl : a.length ≤ 4000000) :
    Calls Try.prog 44 #[v, u] w fun e w' => e = .returned (.bool (decide (a = b))) ∧ Below w.heap.size w w' := by
  have KV := Kept.mk hv
  have KU := Kept.mk hu
  obtain ⟨pa, pc, rfl⟩ := hv.form
  obtain ⟨qa, qc, rfl⟩ := hu.form
  clear hv hu
  by_cases hlen : a.length = b.length
  · have hb0 : ((a.length : Int) != (b.length : Int)) = false := by simp [hlen]
    have Kl := Kept.mk hlen
    clear hlen
    go_enter Try.func44, Try.ntmps44
    go_upto_region 4 with fail
    clear hb0
    go_loopw [13] (fun iv wr => ∃ k : Nat, k ≤ a.length ∧ iv = .int .i64 k ∧ a.take k = b.take k ∧ Below w.heap.size w wr) (fun iv _ => a.length - (intOf iv).toNat)
    case atStart => exact ⟨0, Nat.zero_le _, rfl, rfl, Below.refl _ _⟩
    case round =>
      obtain ⟨k, hk, rfl, htk, hbel⟩ := hrel
      have KB := Kept.mk hbel
      have Kt := Kept.mk htk
      by_cases hlt : k < a.length
      · have hki : (k : Int) < (a.length : Int) := by omega
        have hkb : k < b.length := by rw [← Kl.out]; exact hlt
        have hki2 : (k : Int) < (b.length : Int) := by omega
        have i0 : (0 : Int) ≤ (k : Int) := by omega
        have e1 : IntKind.i64.wrap ((k : Int) + 1) = (k : Int) + 1 := wr64 (by omega) (by omega)
        obtain ⟨a', c', he, -, hr⟩ := KV.out.later hbel (Nat.le_refl _)
        rw [List.length_map] at he hr
        obtain ⟨b1, o1, hp1, hb1, hr1⟩ := hr (by omega)
        have hpae : pa = some ⟨b1, o1, none⟩ := by injection he with h1 h2 h3; rw [h1, hp1]
        subst hpae
        obtain ⟨a2, c2, he2, -, hr⟩ := KU.out.later hbel (Nat.le_refl _)
        rw [List.length_map] at he2 hr
        obtain ⟨b2, o2, hp2, hb2, hr2⟩ := hr (by omega)
        have hqae : qa = some ⟨b2, o2, none⟩ := by injection he2 with h1 h2 h3; rw [h1, hp2]
        subst hqae
        obtain ⟨s, hs⟩ : ∃ s, a[k]? = some s := ⟨_, List.getElem?_eq_getElem hlt⟩
        obtain ⟨t, ht⟩ : ∃ t, b[k]? = some t := ⟨_, List.getElem?_eq_getElem hkb⟩
        have cs : wr.cell? ⟨b1, o1 + k, none⟩ = some (.string s) := hr1 k _ (by rw [List.getElem?_map, hs]; rfl)
        have ct : wr.cell? ⟨b2, o2 + k, none⟩ = some (.string t) := hr2 k _ (by rw [List.getElem?_map, ht]; rfl)
        have Ks := Kept.mk hs
        have Kh := Kept.mk ht
        clear hr hr1 hr2 he he2 hp1 hp2 hs ht htk hbel KV KU
        by_cases hst : s = t
        · subst hst
          have KT := Kept.mk (take_grow Kt.out Ks.out Kh.out rfl)
          go_upto_region 6 with fail
          go_quiet (fail)
          generalize hw3 : World.drewN wr _ = w3
          have KB3 : Kept (Below w.heap.size w w3) := ⟨by rw [← hw3]; exact below_drewN KB.out _⟩
          clear hw3 cs ct
          go_wp2
          go_roundw
          case rel => exact ⟨k + 1, by omega, by go_num, KT.out, KB3.out⟩
          case measure => simp [intOf]; omega
        · have hsn : (s.toList == t.toList) = false := by
            rw [beq_eq_false_iff_ne]
            intro h
            apply hst
            rw [Lib.toList_data, Lib.toList_data] at h
            apply ByteArray.ext
            exact Array.ext' h
          have KD : Kept (decide (a = b) = false) := ⟨decide_eq_false fun e => hst (by
            have h1 := Ks.out
            rw [e, Kh.out] at h1
            injection h1 with h1
            exact h1.symm)⟩
          go_upto_region 6 with fail
          go_quiet (fail)
          generalize hw3 : World.drewN wr _ = w3
          have KB3 : Kept (Below w.heap.size w w3) := ⟨by rw [← hw3]; exact below_drewN KB.out _⟩
          clear hw3 cs ct
          go_wp2
          go_ret
          exact ⟨by rw [KD.out]; rfl, KB3.out⟩
      · have hki : ¬ (k : Int) < (a.length : Int) := by omega
        have KD : Kept (decide (a = b) = true) := ⟨decide_eq_true (by
          have h := Kt.out
          rw [List.take_of_length_le (by omega), List.take_of_length_le (by have := Kl.out; omega)] at h
          exact h)⟩
        clear htk hbel
        go_wp2
        go_ret
        exact ⟨by rw [KD.out]; rfl, KB.out⟩
  · have hb0 : ((a.length : Int) != (b.length : Int)) = true := by simp; omega
    have KD : Kept (decide (a = b) = false) := ⟨decide_eq_false fun e => hlen (by rw [e])⟩
    have KB : Kept (Below w.heap.size w w) := ⟨Below.refl _ _⟩
    clear hlen
    go_enter Try.func44, Try.ntmps44
    go_wp2
    go_ret
    exact ⟨by rw [KD.out]; rfl, KB.out⟩
theorem rdS_new (w : World) (L : List ByteArray) : RdS (w.alloc (.cells (L.map Value.string).toArray 9)) (.slice (some ⟨w.heap.size, 0, none⟩) L.length L.length) L :=
  ⟨some ⟨w.heap.size, 0, none⟩, L.length, by rw [List.length_map], by rw [List.length_map]; exact Nat.le_refl _, fun _ => ⟨w.heap.size, 0, rfl, by simp, (Bk.new w 9 (L.map Value.string)).range⟩⟩
theorem rdV_new (w : World) (T : TypeId) (cs : List Value) : RdV (w.alloc (.cells cs.toArray T)) (.slice (some ⟨w.heap.size, 0, none⟩) cs.length cs.length) cs :=
  ⟨some ⟨w.heap.size, 0, none⟩, cs.length, rfl, Nat.le_refl _, fun _ => ⟨w.heap.size, 0, rfl, by simp, (Bk.new w T cs).range⟩⟩
def lnX : ByteArray := ⟨#[120]⟩
def lnY : ByteArray := ⟨#[121]⟩
def lnZ : ByteArray := ⟨#[122]⟩
theorem ln_xy : lnX ≠ lnY := by unfold lnX lnY; intro h; injection h with h; exact absurd h (by decide)
theorem ln_xz : lnX ≠ lnZ := by unfold lnX lnZ; intro h; injection h with h; exact absurd h (by decide)
theorem ln_yz : lnY ≠ lnZ := by unfold lnY lnZ; intro h; injection h with h; exact absurd h (by decide)
theorem rst_xy : rst [lnX, lnY] [lnY, lnZ] = 2 := by
  simp [rst_cons, rst_nil, rst_nil2, ln_xy, ln_xz, ln_yz]
theorem way_xy : wayP [lnX, lnY] [lnY, lnZ] 0 0 = [(0, 0), (1, 0), (2, 1), (2, 2)] := by
  simp [wayP, rst_cons, rst_nil, rst_nil2, ln_xy, ln_xz, ln_yz]
theorem ln_small {L : List ByteArray} (h : ∀ s ∈ L, s = lnX ∨ s = lnY ∨ s = lnZ) : ∀ s ∈ L, s.size ≤ maxLen := by
  intro s hs
  rcases h s hs with rfl | rfl | rfl <;> decide
theorem pts_four : ptsV [(0, 0), (1, 0), (2, 1), (2, 2)] = [.complex .f64 0 0, .complex .f64 4607182418800017408 0, .complex .f64 4611686018427387904 4607182418800017408, .complex .f64 4611686018427387904 4611686018427387904] := by kernel_rfl
theorem sh_all : (List.range 11).all (fun n => (wrap64 ((2 : Int) ^ n) == ((2 ^ n : Nat) : Int))) = true := by kernel_rfl
theorem sh_ok (n : Nat) (h : n < 11) : wrap64 ((2 : Int) ^ n) = ((2 ^ n : Nat) : Int) := by
  have := List.all_eq_true.1 sh_all n (List.mem_range.2 h)
  simpa using this
theorem pow_le (n : Nat) (h : n < 11) : 2 ^ n ≤ 1024 := Nat.pow_le_pow_right (by decide) (show n ≤ 10 by omega)
theorem and_all : (List.range 1025).all (fun x => (bits .and .i64 (x : Int) 1 == ((x % 2 : Nat) : Int))) = true := by kernel_rfl
theorem and_one {x : Nat} (h : x < 1025) : bits .and .i64 (x : Int) 1 = ((x % 2 : Nat) : Int) := by
  have := List.all_eq_true.1 and_all x (List.mem_range.2 h)
  simpa using this
theorem div_cast (p i : Nat) : (p : Int) / (2 : Int) ^ i = ((p / 2 ^ i : Nat) : Int) := by
  rw [Int.natCast_ediv]
  rfl
theorem bit_set {p i : Nat} (h : p < 1025) : (bits .and .i64 ((p : Int) / (2 : Int) ^ i) 1 == 0) = decide (p / 2 ^ i % 2 = 0) := by
  rw [div_cast, and_one (Nat.lt_of_le_of_lt (Nat.div_le_self _ _) h)]
  rw [Bool.eq_iff_iff, beq_iff_eq, decide_eq_true_iff]
  omega
end Go.Proofs.Ytidpdhnbnecddaa
