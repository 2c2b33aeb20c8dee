/-
  A path's folder, the document's way; a call of a script.
-/
import Derived.Test.YtegdadkejheagaaGreatDoorFL2
import Derived.Deep.RegionHeld3
import Derived.Lib.SliceRun
namespace Go.Proofs.YtegdadkejheagaaGreatDoor
open Go.RowKit Go.WideMaps Go.Maps

theorem run_index_at (w : World) (s : ByteArray) (k : IntKind) (i : Nat) (hi : i < s.size) : (Instr.index 9 (.string s) (.int k i)).run Tryz.prog w = .ok (.int .u8 (((s.data[i]!).toNat : Nat) : Int)) w := by
  rw [run_index_string (P := Tryz.prog) (t := 9) (s := s) (k := k) (i := (i : Int)) (h := Tryz.underlying9)]
  rw [dif_pos ⟨by omega, by omega⟩]
  have e : s[((i : Int)).toNat]'(by omega) = s.data[i]! := by
    rw [getElem!_pos s.data i (show i < s.data.size from hi)]
    rfl
  rw [e]
theorem fol_none {s : ByteArray} (h : ∀ i, i < s.size → (((s.data[i]!).toNat : Nat) : Int) ≠ 47) : folF s = ⟨#[]⟩ := by
  unfold folF
  rcases Lib.lastIndexByte_spec s 47 with ⟨e, -⟩ | ⟨i, hi, e, he, -⟩
  · rw [e]
    apply ByteArray.ext
    simp
    exact .inl (by decide)
  · exact absurd he (h i hi)
theorem fol_some {s : ByteArray} {j : Nat} (hj : j < s.size) (h0 : (((s.data[j]!).toNat : Nat) : Int) = 47) (h : ∀ i, j + 1 ≤ i → i < s.size → (((s.data[i]!).toNat : Nat) : Int) ≠ 47) : folF s = s.extract 0 j := by
  unfold folF
  rcases Lib.lastIndexByte_spec s 47 with ⟨e, hn⟩ | ⟨i, hi, e, he, hn⟩
  · exact absurd h0 (hn j hj)
  · have : i = j := by
      rcases Nat.lt_trichotomy i j with h' | h' | h'
      · exact absurd h0 (hn j h' hj)
      · exact h'
      · exact absurd he (h i h' hi)
    subst this
    rw [e]
    congr 1
    omega
set_option maxHeartbeats 1000000 in
set_option maxRecDepth 100000 in
theorem folder_any (s : ByteArray) (w : World) (hs : s.size ≤ 9223372036854775807) : Calls Tryz.prog 29 #[.string s] w fun e w' => e = .returned (.string (folF s)) ∧ Below w.heap.size w w' := by
  have e1 : IntKind.i64.wrap ((s.size : Int) - 1) = (s.size : Int) - 1 := wr64 (by omega) (by omega)
  go_enter Tryz.func29, Tryz.ntmps29
  go_wp2
  clear e1
  go_loopw [3] (fun kv wr => ∃ j : Nat, j ≤ s.size ∧ kv = .int .i64 ((j : Int) - 1) ∧ (∀ i, j ≤ i → i < s.size → (((s.data[i]!).toNat : Nat) : Int) ≠ 47) ∧ Below w.heap.size w wr) (fun kv _ => (intOf kv + 1).toNat)
  case atStart => exact ⟨s.size, Nat.le_refl _, rfl, fun i h1 h2 => by omega, Below.refl _ _⟩
  case round =>
    obtain ⟨j, hj, rfl, hall, hbel⟩ := hrel
    have KBr := Kept.mk hbel
    have KA := Kept.mk hall
    clear hbel hall
    rcases Nat.eq_zero_or_pos j with h0 | h0
    · subst h0
      have KE := Kept.mk (fol_none (fun i hi => KA.out i (Nat.zero_le _) hi))
      have hneg : ¬ (0 : Int) ≤ ((0 : Nat) : Int) - 1 := by omega
      go_wp2
      go_ret
      exact ⟨by rw [KE.out]; rfl, KBr.out⟩
    · obtain ⟨i, rfl⟩ : ∃ i, j = i + 1 := ⟨j - 1, by omega⟩
      have ei : ((i + 1 : Nat) : Int) - 1 = (i : Int) := by omega
      rw [ei]
      have hi0 : (0 : Int) ≤ (i : Int) := by omega
      have hx := run_index_at wr s .i64 i (by omega)
      have KV : Kept ((((s.data[i]!).toNat : Nat) : Int) = 47 → folF s = s.extract 0 i) := ⟨fun h => fol_some (by omega) h KA.out⟩
      have KA2 : Kept ((((s.data[i]!).toNat : Nat) : Int) ≠ 47 → ∀ q, i ≤ q → q < s.size → (((s.data[q]!).toNat : Nat) : Int) ≠ 47) := ⟨fun h q h1 h2 => by
        by_cases e : q = i
        · subst e; exact h
        · exact KA.out q (by omega) h2⟩
      generalize (((s.data[i]!).toNat : Nat) : Int) = x at *
      have e2 : IntKind.i64.wrap ((i : Int) - 1) = (i : Int) - 1 := wr64 (by omega) (by omega)
      by_cases h47 : x = 47
      · subst h47
        have KE := Kept.mk (KV.out rfl)
        have hsz : (i : Int) ≤ (s.size : Int) := by omega
        go_wp2
        go_ret
        exact ⟨by rw [KE.out]; rfl, KBr.out⟩
      · go_wp2
        go_roundw
        case rel => exact ⟨i, by omega, by go_num, KA2.out h47, KBr.out⟩
        case measure => simp [intOf]
/-- A disk whose blocks are none of G's. -/
def Dg (G : Nat → Prop) (lo : Nat) (w : World) (d : Nat) (s : Ps) (n m : Nat) : Prop := (∀ i, G i → i < w.heap.size) ∧ ∃ B S, Dk w B d S n ∧ S.ps = s ∧ S.m ≤ m ∧ ∀ i, B i → (lo ≤ i ∧ i < w.heap.size) ∧ ¬ G i
/-- Neither what lies below lo nor G's blocks have turned. -/
structure Bg (G : Nat → Prop) (lo : Nat) (w w' : World) : Prop where
  bel : Below lo w w'
  g : ∀ i, G i → w'.heap[i]? = w.heap[i]?
theorem Bg.trans {G : Nat → Prop} {lo : Nat} {w w' w'' : World} (h : Bg G lo w w') (k : Bg G lo w' w'') : Bg G lo w w'' := ⟨h.bel.trans k.bel, fun i hi => (k.g i hi).trans (h.g i hi)⟩
theorem Bg.refl (G : Nat → Prop) (lo : Nat) (w : World) : Bg G lo w w := ⟨Below.refl _ _, fun _ _ => rfl⟩
theorem Bg.of {G : Nat → Prop} {lo : Nat} {w w' : World} {b : Nat} (h : Below b w w') (hlo : lo ≤ b) (hG : ∀ i, G i → i < b) : Bg G lo w w' := ⟨h.mono hlo, fun i hi => h.block i (hG i hi)⟩
section
variable {G : Nat → Prop} {lo : Nat} {w w' : World} {d n m : Nat} {s : Ps}
theorem Dg.ds (h : Dg G lo w d s n m) : Ds lo w d s n m := by
  obtain ⟨-, B, S, h1, h2, h3, h4⟩ := h
  exact ⟨B, S, h1, h2, h3, fun i hi => (h4 i hi).1⟩
theorem Dg.of (h : Ds lo w d s n m) : Dg (fun _ => False) lo w d s n m := by
  obtain ⟨B, S, h1, h2, h3, h4⟩ := h
  exact ⟨fun _ h => h.elim, B, S, h1, h2, h3, fun i hi => ⟨h4 i hi, fun h => h.elim⟩⟩
/-- A block that was made behind it. -/
theorem Ds.out (h : Ds lo w d s n m) (hb : Below w.heap.size w w') (hG : ∀ i, G i → w.heap.size ≤ i ∧ i < w'.heap.size) : Dg G lo w' d s n m := by
  obtain ⟨B, S, h1, h2, h3, h4⟩ := h
  exact ⟨fun i hi => (hG i hi).2, B, S, h1.later hb, h2, h3, fun i hi => ⟨⟨(h4 i hi).1, Nat.lt_of_lt_of_le (h4 i hi).2 hb.size⟩, fun hg => by have := (h4 i hi).2; have := (hG i hg).1; omega⟩⟩
theorem Dg.later (h : Dg G lo w d s n m) (hb : Below w.heap.size w w') : Dg G lo w' d s n m := by
  obtain ⟨hG, B, S, h1, h2, h3, h4⟩ := h
  exact ⟨fun i hi => Nat.lt_of_lt_of_le (hG i hi) hb.size, B, S, h1.later hb, h2, h3, fun i hi => ⟨⟨(h4 i hi).1.1, Nat.lt_of_lt_of_le (h4 i hi).1.2 hb.size⟩, (h4 i hi).2⟩⟩
theorem Dg.weak (h : Dg G lo w d s n m) {n' m' : Nat} (hn : n ≤ n') (hm : m ≤ m') : Dg G lo w d s n' m' := by
  obtain ⟨hG, B, S, h1, h2, h3, h4⟩ := h
  exact ⟨hG, B, S, h1.weak (fun _ _ h => h) hn, h2, Nat.le_trans h3 hm, h4⟩
theorem dg_of {B : Nat → Prop} {S' : St} {n' m' : Nat} (hG : ∀ i, G i → i < w.heap.size) (hB : ∀ i, B i → (lo ≤ i ∧ i < w.heap.size) ∧ ¬ G i) (hlo : lo ≤ w.heap.size) (h : Dk w' (Gr B w) d S' n') (hF : Fx B w w') (hs : S'.ps = s) (hm : S'.m ≤ m') : Dg G lo w' d s n' m' ∧ Bg G lo w w' :=
  ⟨⟨fun i hi => Nat.lt_of_lt_of_le (hG i hi) hF.size, _, S', h.cut, hs, hm, fun i hi => ⟨⟨by
    rcases hi.1 with h | h
    · exact (hB i h).1.1
    · omega, hi.2⟩, fun hg => by
    rcases hi.1 with h | h
    · exact (hB i h).2 hg
    · have := hG i hg; omega⟩⟩, hF.below hlo (fun i hi hb => by have := (hB i hb).1; omega), fun i hi => hF.block i (hG i hi) (fun hb => (hB i hb).2 hi)⟩
theorem Dg.ge (h : Dg G lo w d s n m) : lo ≤ d := h.ds.ge
theorem create_dg (p : ByteArray) (h : Dg G lo w d s n m) (hg : Gl w) (hlo : lo ≤ w.heap.size) (hc0 : 0 ≤ s.count) (hc1 : s.count < 1000000) (hgl : 3 ≤ lo) (hn : n < 900000) (hm : m < 1000) :
    Calls Tryz.prog 13 #[.pointer (some ⟨d, 0, none⟩), .string p] w fun e w' => e = .returned (.int .i64 (crE s p)) ∧ ∃ s', Dg G lo w' d s' (n + 2) (m + 1) ∧ CrP s p s' ∧ Bg G lo w w' := by
  have hd := h.ge
  obtain ⟨hG, B, S, h1, rfl, h3, h4⟩ := h
  refine Calls.mono (create_any p h1 hg hc0 hc1 (by omega) hn (by omega)) (fun e w' hp => ?_)
  obtain ⟨h5, S', h6, h7, h8, h9⟩ := hp
  have := dg_of hG h4 hlo h6 h8 rfl (show S'.m ≤ m + 1 by omega)
  exact ⟨h5, S'.ps, this.1, h7, this.2⟩
theorem append_dg {w0 : World} (p : ByteArray) (v : Value) (ys : List Int) (h : Dg G lo w0 d s n m) (hb : Below w0.heap.size w0 w) (hg : Gl w) (hlo : lo ≤ w0.heap.size) (hc0 : 0 ≤ s.count) (hc1 : s.count < 1000000) (hgl : 3 ≤ lo)
    (hr : Rd .u8 (fun b => w0.heap.size ≤ b ∨ b < lo) w v ys) (hA : AllB ys) (hy : ys.length ≤ 1000000000) (hu0 : -4398046511104 ≤ s.used) (hu1 : s.used ≤ 4398046511104) :
    Calls Tryz.prog 14 #[.pointer (some ⟨d, 0, none⟩), .string p, v] w fun e w' => e = .returned (.int .i64 (apE s p ys.length)) ∧ Dg G lo w' d (apP s p ys) n m ∧ Bg G lo w w' ∧ ∀ i, w0.heap.size ≤ i → i < w.heap.size → w'.heap[i]? = w.heap[i]? := by
  have hd := h.ge
  obtain ⟨hG, B, S, h1, rfl, h3, h4⟩ := h
  refine Calls.mono (append_any p v ys (h1.later hb) hg hc0 hc1 (by omega) (hr.weak (fun b _ hb' hB => by have := h4 b hB; omega)) hA hy hu0 hu1) (fun e w' hp => ?_)
  obtain ⟨h5, S', h6, h7, h8, h9⟩ := hp
  have := dg_of (w := w) (fun i hi => Nat.lt_of_lt_of_le (hG i hi) hb.size) (fun i hi => ⟨⟨(h4 i hi).1.1, Nat.lt_of_lt_of_le (h4 i hi).1.2 hb.size⟩, (h4 i hi).2⟩) (Nat.le_trans hlo hb.size) h6 h8 h7 (show S'.m ≤ m by omega)
  exact ⟨h5, this.1, this.2, fun i hi hlt => h8.block i hlt (fun hB => by have := h4 i hB; omega)⟩
theorem sync_dg (p : ByteArray) (h : Dg G lo w d s n m) (hg : Gl w) (hlo : lo ≤ w.heap.size) (hc0 : 0 ≤ s.count) (hc1 : s.count < 1000000) (hgl : 3 ≤ lo) :
    Calls Tryz.prog 19 #[.pointer (some ⟨d, 0, none⟩), .string p] w fun e w' => e = .returned (.int .i64 (opEP s [p] p)) ∧ Dg G lo w' d (syP s p) n m ∧ Bg G lo w w' := by
  have hd := h.ge
  obtain ⟨hG, B, S, h1, rfl, h3, h4⟩ := h
  refine Calls.mono (sync_any p h1 hg hc0 hc1 (by omega)) (fun e w' hp => ?_)
  obtain ⟨h5, S', h6, h7, h8, h9⟩ := hp
  have := dg_of hG h4 hlo h6 h8 h7 (show S'.m ≤ m by omega)
  exact ⟨h5, this.1, this.2⟩
theorem rename_dg (p q : ByteArray) (h : Dg G lo w d s n m) (hg : Gl w) (hlo : lo ≤ w.heap.size) (hc0 : 0 ≤ s.count) (hc1 : s.count < 1000000) (hgl : 3 ≤ lo) (hn : n < 900000) (hm : m < 1000) (hu0 : -4398046511104 ≤ s.used) (hu1 : s.used ≤ 4398046511104) :
    Calls Tryz.prog 20 #[.pointer (some ⟨d, 0, none⟩), .string p, .string q] w fun e w' => e = .returned (.int .i64 (opEP s [p, q] p)) ∧ Dg G lo w' d (rnP s p q) (n + 2) (m + 1) ∧ Bg G lo w w' := by
  have hd := h.ge
  obtain ⟨hG, B, S, h1, rfl, h3, h4⟩ := h
  refine Calls.mono (rename_any p q h1 hg hc0 hc1 (by omega) hn (by omega) hu0 hu1) (fun e w' hp => ?_)
  obtain ⟨h5, S', h6, h7, h8, h9⟩ := hp
  have := dg_of hG h4 hlo h6 h8 h7 (show S'.m ≤ m + 1 by omega)
  exact ⟨h5, this.1, this.2⟩
theorem remove_dg (p : ByteArray) (h : Dg G lo w d s n m) (hg : Gl w) (hlo : lo ≤ w.heap.size) (hc0 : 0 ≤ s.count) (hc1 : s.count < 1000000) (hgl : 3 ≤ lo) (hn : n < 900000) (hm : m < 1000) (hu0 : -4398046511104 ≤ s.used) (hu1 : s.used ≤ 4398046511104) :
    Calls Tryz.prog 21 #[.pointer (some ⟨d, 0, none⟩), .string p] w fun e w' => e = .returned (.int .i64 (opEP s [p] p)) ∧ Dg G lo w' d (rmP s p) (n + 2) (m + 1) ∧ Bg G lo w w' := by
  have hd := h.ge
  obtain ⟨hG, B, S, h1, rfl, h3, h4⟩ := h
  refine Calls.mono (remove_any p h1 hg hc0 hc1 (by omega) hn (by omega) hu0 hu1) (fun e w' hp => ?_)
  obtain ⟨h5, S', h6, h7, h8, h9⟩ := hp
  have := dg_of hG h4 hlo h6 h8 h7 (show S'.m ≤ m + 1 by omega)
  exact ⟨h5, this.1, this.2⟩
theorem syncDir_dg (p : ByteArray) (h : Dg G lo w d s n m) (hg : Gl w) (hlo : lo ≤ w.heap.size) (hc0 : 0 ≤ s.count) (hc1 : s.count < 1000000) (hgl : 3 ≤ lo) (hn : n < 900000) (hm : m < 1000) (hp : p.size ≤ maxLen) :
    Calls Tryz.prog 22 #[.pointer (some ⟨d, 0, none⟩), .string p] w fun e w' => e = .returned (.int .i64 (bgEP s false [])) ∧ Dg G lo w' d (sdP s p) (n + m) m ∧ Bg G lo w w' := by
  have hd := h.ge
  obtain ⟨hG, B, S, h1, rfl, h3, h4⟩ := h
  refine Calls.mono (syncDir_any p h1 hg hc0 hc1 (by omega) hn (by omega) hp) (fun e w' hp => ?_)
  obtain ⟨h5, S', h6, h7, h8, h9⟩ := hp
  have := dg_of hG h4 hlo h6 h8 h7 (show S'.m ≤ m by omega)
  exact ⟨h5, this.1.weak (by omega) (Nat.le_refl _), this.2⟩
end
/-- A disk upon which at most k calls were made. -/
structure Rn (G : Nat → Prop) (lo : Nat) (w : World) (d : Nat) (s : Ps) (k : Nat) : Prop where
  ds : ∃ a b, Dg G lo w d s (a * (b + 2)) a ∧ a + b ≤ k
  inv : Inv s
  calm : Calm s
  lim : Lim s k
theorem Rn.later {G : Nat → Prop} {lo : Nat} {w w' : World} {d : Nat} {s : Ps} {k : Nat} (h : Rn G lo w d s k) (hb : Below w.heap.size w w') : Rn G lo w' d s k := by
  obtain ⟨a, b, h1, h2⟩ := h.ds
  exact ⟨⟨a, b, h1.later hb, h2⟩, h.inv, h.calm, h.lim⟩
theorem Rn.weak {G : Nat → Prop} {lo : Nat} {w : World} {d : Nat} {s : Ps} {k k' : Nat} (h : Rn G lo w d s k) (hk : k ≤ k') : Rn G lo w d s k' := by
  obtain ⟨a, b, h1, h2⟩ := h.ds
  have h3 := h.lim.u0
  have h4 := h.lim.u1
  have h5 := h.lim.c
  exact ⟨⟨a, b, h1, by omega⟩, h.inv, h.calm, ⟨h.lim.len, by omega, by omega, by omega⟩⟩
theorem Rn.out {G : Nat → Prop} {lo : Nat} {w w' : World} {d : Nat} {s : Ps} {k : Nat} (h : Rn (fun _ => False) lo w d s k) (hb : Below w.heap.size w w') (hG : ∀ i, G i → w.heap.size ≤ i ∧ i < w'.heap.size) : Rn G lo w' d s k := by
  obtain ⟨a, b, h1, h2⟩ := h.ds
  exact ⟨⟨a, b, h1.ds.out hb hG, h2⟩, h.inv, h.calm, h.lim⟩
theorem rn_new {lo : Nat} {w : World} {d : Nat} {q : Int} (h : Ds lo w d (newS q).ps 0 0) : Rn (fun _ => False) lo w d (newS q).ps 0 := ⟨⟨0, 0, by simpa using Dg.of h, Nat.le_refl _⟩, inv_new q, calm_new q, lim_new q⟩
theorem cell_of {w w' : World} {g j : Nat} {u : Value} (h : w.cell? ⟨g, j, none⟩ = some u) (hb : w'.heap[g]? = w.heap[g]?) : w'.cell? ⟨g, j, none⟩ = some u := by
  unfold World.cell? at *
  rw [hb]
  exact h
end Go.Proofs.YtegdadkejheagaaGreatDoor
