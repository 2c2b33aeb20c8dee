/-
  Walks: appendStored.
-/
import Derived.Test.YtjijkcmbbccfmaaF5
namespace Go.Proofs.Ytjijkcmbbccfmaa
open Go.RowKit

/-- Numbers that are laid in a block of their own. -/
theorem Rd.many (k : IntKind) (w : World) (xs : List Int) (t : TypeId) (hm : xs.length ≤ maxLen) : Rd k anyB (w.alloc (.cells (cellsK k xs).toArray t)) (.slice (some ⟨w.heap.size, 0, none⟩) xs.length xs.length) xs := by
  refine ⟨some ⟨w.heap.size, 0, none⟩, xs.length, rfl, Nat.le_refl _, hm, (fun h => by cases h), fun _ => ⟨w.heap.size, 0, rfl, by simp, trivial, fun i hi => ?_⟩⟩
  have hb : (w.alloc (.cells (cellsK k xs).toArray t)).heap[w.heap.size]? = some (.cells (cellsK k xs).toArray t) := heap_alloc_new w _
  simp only [World.cell?, hb, Nat.zero_add]
  simp [cellsK, List.getD, List.getElem?_eq_getElem hi]

theorem not_u8 (x : Nat) (h : x < 256) : bits .xor .u8 IntKind.u8.max (x : Int) = 255 - (x : Int) := by
  have h1 := u8_xor_nat 255 x (by omega) h
  have h2 : (List.range 256).all (fun x => (255 ^^^ x) == 255 - x) = true := by kernel_rfl
  have h3 := List.all_eq_true.1 h2 x (by simpa using h)
  have h4 : 255 ^^^ x = 255 - x := by simpa using h3
  rw [h4] at h1
  have h5 : IntKind.u8.max = ((255 : Nat) : Int) := rfl
  rw [h5, h1]
  omega
/-- What stands ahead of a block of way 0. -/
def hdL (last : Int) (n : Nat) : List Int := [last, (n : Int) % 256, (n : Int) / 256 % 256, 255 - (n : Int) % 256, 255 - (n : Int) / 256 % 256]

set_option maxHeartbeats 1000000 in
set_option maxRecDepth 100000 in
theorem appendStored_any (v pv : Value) (xs p : List Int) (last : Int) (w : World) (base : Nat) (ho : Own .u8 5 w base v xs) (hbw : base ≤ w.heap.size) (hp : Rd .u8 (fun b => b < base) w pv p) (hl : xs.length + p.length + 5 ≤ 70368744177664) :
    Calls Try.prog 18 #[v, pv, .int .u8 last] w fun e w' => ∃ v', e = .returned v' ∧ Own .u8 5 w' base v' (xs ++ hdL last p.length ++ p) ∧ Below base w w' := by
  obtain ⟨i0, z0, hi, hz, hs, hb, hc⟩ := info8
  obtain ⟨oa, oc, rfl, -, -, -⟩ := ho.rd.form
  obtain ⟨pa, pc, rfl, -, hlc, hcm⟩ := hp.form
  have hpl : (p.length : Int) ≤ 70368744177664 := by omega
  have KO := Kept.mk ho
  have KP := Kept.mk hp
  clear ho hp hlc hcm
  go_enter Try.func18, Try.ntmps18
  have hn1 : bits .xor .u8 IntKind.u8.max ((p.length : Int) % 256) = 255 - (p.length : Int) % 256 := by
    have := not_u8 (p.length % 256) (by omega)
    rwa [show ((p.length % 256 : Nat) : Int) = (p.length : Int) % 256 from by omega] at this
  have hn2 : bits .xor .u8 IntKind.u8.max ((p.length : Int) / 256 % 256) = 255 - (p.length : Int) / 256 % 256 := by
    have := not_u8 (p.length / 256 % 256) (by omega)
    rwa [show ((p.length / 256 % 256 : Nat) : Int) = (p.length : Int) / 256 % 256 from by omega] at this
  have hr5 : Kept (Rd .u8 anyB (w.alloc (.cells #[.int .u8 last, .int .u8 ((p.length : Int) % 256), .int .u8 ((p.length : Int) / 256 % 256), .int .u8 (bits .xor .u8 IntKind.u8.max ((p.length : Int) % 256)), .int .u8 (bits .xor .u8 IntKind.u8.max ((p.length : Int) / 256 % 256))] 5)) (.slice (some ⟨w.heap.size, 0, none⟩) 5 5) (hdL last p.length)) := ⟨by rw [hn1, hn2]; exact Rd.many .u8 w (hdL last p.length) 5 (by unfold maxLen hdL; simp)⟩
  have hl5 : (hdL last p.length).length = 5 := rfl
  have KOa := Kept.mk (KO.out.alloc (.cells #[.int .u8 last, .int .u8 ((p.length : Int) % 256), .int .u8 ((p.length : Int) / 256 % 256), .int .u8 (bits .xor .u8 IntKind.u8.max ((p.length : Int) % 256)), .int .u8 (bits .xor .u8 IntKind.u8.max ((p.length : Int) / 256 % 256))] 5))
  have KBa := Kept.mk ((Below.refl base w).alloc hbw (.cells #[.int .u8 last, .int .u8 ((p.length : Int) % 256), .int .u8 ((p.length : Int) / 256 % 256), .int .u8 (bits .xor .u8 IntKind.u8.max ((p.length : Int) % 256)), .int .u8 (bits .xor .u8 IntKind.u8.max ((p.length : Int) / 256 % 256))] 5))
  clear hn1 hn2
  have hl25 : Kept ((xs ++ hdL last p.length).length = xs.length + 5) := ⟨by simp [hl5]⟩
  generalize hdL last p.length = D at *
  go_wp2_with (first | (at_builtin; refine wpList_append_rd _ rfl _ _ 22 rfl .u8 anyB 1 base 5 i0 z0 Try.underlying22 hi hz hs hb hc (by omega) (.slice oa xs.length oc) xs rfl KOa.out _ D rfl hr5.out (by simp; omega) (by simp; omega) ?_; intro v2 w2 hown hgrow hat; obtain ⟨na, nc, rfl, -, hl2, hcm2⟩ := hown.rd.form; have KB2 := Kept.mk (KBa.out.grown hgrow (by simp; omega) (fun k hk => (KO.out.lt k hk).1)); have hbw2 := KB2.out.size; rw [hl25.out] at hown; have KO2 := Kept.mk hown; have KP2 : Kept (Rd .u8 anyB w2 (.slice pa p.length pc) p) := ⟨KP.out.far KB2.out.size (fun b _ hb => ⟨trivial, KB2.out.block b hb⟩)⟩; clear hown hgrow hat hl2 hcm2) | (at_builtin; refine wpList_append_rd _ rfl _ _ 22 rfl .u8 anyB 1 base 5 i0 z0 Try.underlying22 hi hz hs hb hc (by omega) (.slice na (xs.length + 5) nc) (xs ++ D) rfl KO2.out _ p rfl KP2.out (by simp; omega) (by omega) ?_; intro v3 w3 hown3 hgrow3 hat3; have KB3 := Kept.mk (KB2.out.grown hgrow3 (by omega) (fun k hk => (KO2.out.lt k hk).1)); have KO3 := Kept.mk hown3; clear hown3 hgrow3 hat3))
  go_ret
  refine ⟨_, rfl, ?_, KB3.out⟩
  have h3 := KO3.out
  rw [List.append_assoc] at h3
  exact h3
end Go.Proofs.Ytjijkcmbbccfmaa
