/-
  A disk, wherever its blocks lie: each call's contract once more.
-/
import Derived.Test.YtegdadkejheagaaDoorFF0
namespace Go.Proofs.YtegdadkejheagaaDoor
open Go.RowKit Go.WideMaps Go.Maps

/-- A disk in memory that the call has made: its blocks lie from 'lo' on. -/
def Ds (lo : Nat) (w : World) (d : Nat) (s : Ps) (n m : Nat) : Prop := ∃ B S, Dk w B d S n ∧ S.ps = s ∧ S.m ≤ m ∧ ∀ i, B i → lo ≤ i ∧ i < w.heap.size
section
variable {lo : Nat} {w w' : World} {d n m : Nat} {s : Ps}
theorem Ds.later (h : Ds lo w d s n m) (hb : Below w.heap.size w w') : Ds lo w' d s n m := by
  obtain ⟨B, S, h1, h2, h3, h4⟩ := h
  exact ⟨B, S, h1.later hb, h2, h3, fun i hi => ⟨(h4 i hi).1, Nat.lt_of_lt_of_le (h4 i hi).2 hb.size⟩⟩
theorem Ds.ge (h : Ds lo w d s n m) : lo ≤ d := by
  obtain ⟨B, S, h1, h2, h3, h4⟩ := h
  exact (h4 d h1.inB).1
theorem Ds.weak (h : Ds lo w d s n m) {n' m' : Nat} (hn : n ≤ n') (hm : m ≤ m') : Ds lo w d s n' m' := by
  obtain ⟨B, S, h1, h2, h3, h4⟩ := h
  exact ⟨B, S, h1.weak (fun _ _ h => h) hn, h2, Nat.le_trans h3 hm, h4⟩
theorem ds_of {B : Nat → Prop} {S' : St} {n' m' : Nat} (hB : ∀ i, B i → lo ≤ i ∧ i < w.heap.size) (hlo : lo ≤ w.heap.size) (h : Dk w' (Gr B w) d S' n') (hF : Fx B w w') (hs : S'.ps = s) (hm : S'.m ≤ m') : Ds lo w' d s n' m' ∧ Below lo w w' :=
  ⟨⟨_, S', h.cut, hs, hm, fun i hi => ⟨by
    rcases hi.1 with h | h
    · exact (hB i h).1
    · omega, hi.2⟩⟩, hF.below hlo (fun i hi hb => by have := (hB i hb).1; omega)⟩
theorem new_ds (q : Int) (w : World) (hq : 0 ≤ q) (hlo : lo ≤ w.heap.size) : Calls Tryd.prog 8 #[.int .i64 q] w fun e w' => ∃ d, e = .returned (.tuple #[.pointer (some ⟨d, 0, none⟩), .int .i64 0]) ∧ Ds lo w' d (newS q).ps 0 0 ∧ Below lo w w' := by
  refine Calls.mono (new_any q w hq) (fun e w' hp => ?_)
  obtain ⟨h1, h2, h3⟩ := hp
  exact ⟨_, h1, ⟨_, _, h2.cut, rfl, Nat.le_refl _, fun i hi => ⟨by have := hi.1; omega, hi.2⟩⟩, h3.mono hlo⟩
theorem create_ds (p : ByteArray) (h : Ds lo w d s n m) (hg : Gl w) (hlo : lo ≤ w.heap.size) (hc0 : 0 ≤ s.count) (hc1 : s.count < 1000000) (hgl : 3 ≤ lo) (hn : n < 900000) (hm : m < 1000) :
    Calls Tryd.prog 17 #[.pointer (some ⟨d, 0, none⟩), .string p] w fun e w' => e = .returned (.int .i64 (crE s p)) ∧ ∃ s', Ds lo w' d s' (n + 2) (m + 1) ∧ CrP s p s' ∧ Below lo w w' := by
  have hd := h.ge
  obtain ⟨B, S, h1, rfl, h3, h4⟩ := h
  refine Calls.mono (create_any p h1 hg hc0 hc1 (by omega) hn (by omega)) (fun e w' hp => ?_)
  obtain ⟨h5, S', h6, h7, h8, h9⟩ := hp
  have := ds_of h4 hlo h6 h8 rfl (show S'.m ≤ m + 1 by omega)
  exact ⟨h5, S'.ps, this.1, h7, this.2⟩
theorem append_ds {w0 : World} (p : ByteArray) (v : Value) (ys : List Int) (h : Ds lo w0 d s n m) (hb : Below w0.heap.size w0 w) (hg : Gl w) (hlo : lo ≤ w0.heap.size) (hc0 : 0 ≤ s.count) (hc1 : s.count < 1000000) (hgl : 3 ≤ lo)
    (hr : Rd .u8 (fun b => w0.heap.size ≤ b ∨ b < lo) w v ys) (hA : AllB ys) (hy : ys.length ≤ 1000000000) (hu0 : -4398046511104 ≤ s.used) (hu1 : s.used ≤ 4398046511104) :
    Calls Tryd.prog 10 #[.pointer (some ⟨d, 0, none⟩), .string p, v] w fun e w' => e = .returned (.int .i64 (apE s p ys.length)) ∧ Ds lo w' d (apP s p ys) n m ∧ Below lo w w' := by
  have hd := h.ge
  obtain ⟨B, S, h1, rfl, h3, h4⟩ := h
  refine Calls.mono (append_any p v ys (h1.later hb) hg hc0 hc1 (by omega) (hr.weak (fun b _ hb' hB => by have := h4 b hB; omega)) hA hy hu0 hu1) (fun e w' hp => ?_)
  obtain ⟨h5, S', h6, h7, h8, h9⟩ := hp
  have := ds_of (w := w) (fun i hi => ⟨(h4 i hi).1, Nat.lt_of_lt_of_le (h4 i hi).2 hb.size⟩) (Nat.le_trans hlo hb.size) h6 h8 h7 (show S'.m ≤ m by omega)
  exact ⟨h5, this.1, this.2⟩
theorem sync_ds (p : ByteArray) (h : Ds lo w d s n m) (hg : Gl w) (hlo : lo ≤ w.heap.size) (hc0 : 0 ≤ s.count) (hc1 : s.count < 1000000) (hgl : 3 ≤ lo) :
    Calls Tryd.prog 12 #[.pointer (some ⟨d, 0, none⟩), .string p] w fun e w' => e = .returned (.int .i64 (opEP s [p] p)) ∧ Ds lo w' d (syP s p) n m ∧ Below lo w w' := by
  have hd := h.ge
  obtain ⟨B, S, h1, rfl, h3, h4⟩ := h
  refine Calls.mono (sync_any p h1 hg hc0 hc1 (by omega)) (fun e w' hp => ?_)
  obtain ⟨h5, S', h6, h7, h8, h9⟩ := hp
  have := ds_of h4 hlo h6 h8 h7 (show S'.m ≤ m by omega)
  exact ⟨h5, this.1, this.2⟩
theorem rename_ds (p q : ByteArray) (h : Ds lo w d s n m) (hg : Gl w) (hlo : lo ≤ w.heap.size) (hc0 : 0 ≤ s.count) (hc1 : s.count < 1000000) (hgl : 3 ≤ lo) (hn : n < 900000) (hm : m < 1000) (hu0 : -4398046511104 ≤ s.used) (hu1 : s.used ≤ 4398046511104) :
    Calls Tryd.prog 18 #[.pointer (some ⟨d, 0, none⟩), .string p, .string q] w fun e w' => e = .returned (.int .i64 (opEP s [p, q] p)) ∧ Ds lo w' d (rnP s p q) (n + 2) (m + 1) ∧ Below lo w w' := by
  have hd := h.ge
  obtain ⟨B, S, h1, rfl, h3, h4⟩ := h
  refine Calls.mono (rename_any p q h1 hg hc0 hc1 (by omega) hn (by omega) hu0 hu1) (fun e w' hp => ?_)
  obtain ⟨h5, S', h6, h7, h8, h9⟩ := hp
  have := ds_of h4 hlo h6 h8 h7 (show S'.m ≤ m + 1 by omega)
  exact ⟨h5, this.1, this.2⟩
theorem remove_ds (p : ByteArray) (h : Ds lo w d s n m) (hg : Gl w) (hlo : lo ≤ w.heap.size) (hc0 : 0 ≤ s.count) (hc1 : s.count < 1000000) (hgl : 3 ≤ lo) (hn : n < 900000) (hm : m < 1000) (hu0 : -4398046511104 ≤ s.used) (hu1 : s.used ≤ 4398046511104) :
    Calls Tryd.prog 19 #[.pointer (some ⟨d, 0, none⟩), .string p] w fun e w' => e = .returned (.int .i64 (opEP s [p] p)) ∧ Ds lo w' d (rmP s p) (n + 2) (m + 1) ∧ Below lo w w' := by
  have hd := h.ge
  obtain ⟨B, S, h1, rfl, h3, h4⟩ := h
  refine Calls.mono (remove_any p h1 hg hc0 hc1 (by omega) hn (by omega) hu0 hu1) (fun e w' hp => ?_)
  obtain ⟨h5, S', h6, h7, h8, h9⟩ := hp
  have := ds_of h4 hlo h6 h8 h7 (show S'.m ≤ m + 1 by omega)
  exact ⟨h5, this.1, this.2⟩
theorem syncDir_ds (p : ByteArray) (h : Ds lo w d s n m) (hg : Gl w) (hlo : lo ≤ w.heap.size) (hc0 : 0 ≤ s.count) (hc1 : s.count < 1000000) (hgl : 3 ≤ lo) (hn : n < 900000) (hm : m < 1000) (hp : p.size ≤ maxLen) :
    Calls Tryd.prog 13 #[.pointer (some ⟨d, 0, none⟩), .string p] w fun e w' => e = .returned (.int .i64 (bgEP s false [])) ∧ Ds lo w' d (sdP s p) (n + m) m ∧ Below lo w w' := by
  have hd := h.ge
  obtain ⟨B, S, h1, rfl, h3, h4⟩ := h
  refine Calls.mono (syncDir_any p h1 hg hc0 hc1 (by omega) hn (by omega) hp) (fun e w' hp => ?_)
  obtain ⟨h5, S', h6, h7, h8, h9⟩ := hp
  have := ds_of h4 hlo h6 h8 h7 (show S'.m ≤ m by omega)
  exact ⟨h5, this.1.weak (by omega) (Nat.le_refl _), this.2⟩
theorem read_ds (p : ByteArray) (h : Ds lo w d s n m) (hg : Gl w) :
    Calls Tryd.prog 11 #[.pointer (some ⟨d, 0, none⟩), .string p] w fun e w' => ∃ v, e = .returned (.tuple #[v, .int .i64 (rdE s p)]) ∧ Own .u8 5 w' w.heap.size v (rdL s p) ∧ Below w.heap.size w w' := by
  obtain ⟨B, S, h1, rfl, h3, h4⟩ := h
  exact read_any p h1 hg
theorem off_ds (h : Ds lo w d s n m) : Calls Tryd.prog 21 #[.pointer (some ⟨d, 0, none⟩)] w fun e w' => e = .returned (.bool s.dark) ∧ w' = w := by
  obtain ⟨B, S, h1, rfl, h3, h4⟩ := h
  exact off_any h1
theorem count_ds (h : Ds lo w d s n m) : Calls Tryd.prog 22 #[.pointer (some ⟨d, 0, none⟩)] w fun e w' => e = .returned (.int .i64 s.count) ∧ w' = w := by
  obtain ⟨B, S, h1, rfl, h3, h4⟩ := h
  exact count_any h1
theorem plan_ds {w0 : World} (v : Value) (L : List Int) (o : Int) (h : Ds lo w0 d s n m) (hb : Below w0.heap.size w0 w) (hlo : lo ≤ w0.heap.size) (hr : Rd .i64 (fun b => w0.heap.size ≤ b ∨ b < lo) w v L) (hL : ∀ i ∈ L, I64 i) (hn : n + L.length ≤ 900000) :
    Calls Tryd.prog 20 #[.pointer (some ⟨d, 0, none⟩), v, .int .i64 o] w fun e w' => e = .returned (.tuple #[]) ∧ Ds lo w' d (plP s L o) (n + L.length) m ∧ Below lo w w' := by
  obtain ⟨B, S, h1, rfl, h3, h4⟩ := h
  refine Calls.mono (plan_any v L o (h1.later hb) (hr.weak (fun b _ hb' hB => by have := h4 b hB; omega)) hL hn) (fun e w' hp => ?_)
  obtain ⟨h5, S', h6, h7, h8, h9⟩ := hp
  have := ds_of (w := w) (fun i hi => ⟨(h4 i hi).1, Nat.lt_of_lt_of_le (h4 i hi).2 hb.size⟩) (Nat.le_trans hlo hb.size) h6 h8 h7 (show S'.m ≤ m by omega)
  exact ⟨h5, this.1, this.2⟩
theorem crash_ds (v : Value) (cs : List Int) (h : Ds lo w d s n m) (hr : Rd .u8 anyB w v cs) (hA : AllB cs) (hnf : n + n * m ≤ 900000) :
    Calls Tryd.prog 15 #[.pointer (some ⟨d, 0, none⟩), v] w fun e w' => ∃ d' s' ks ps, e = .returned (.tuple #[.pointer (some ⟨d', 0, none⟩), .int .i64 0]) ∧ Ds w.heap.size w' d' s' (n + n * m) 0 ∧ CrD s cs s' ks ps ∧ Ds lo w' d s n m ∧ Below w.heap.size w w' := by
  have h0 := h
  obtain ⟨B, S, h1, rfl, h3, h4⟩ := h
  have hmm : n * S.m ≤ n * m := Nat.mul_le_mul_left _ h3
  refine Calls.mono (crash_any v cs h1 hr hA (by omega)) (fun e w' hp => ?_)
  obtain ⟨d', S', n', ks, ps, B', h5, h6, h7, -, h9, h10, h11, h12⟩ := hp
  exact ⟨d', S'.ps, ks, ps, h5, ⟨_, S', h6.cut.weak (fun _ _ h => h) (by omega), rfl, by omega, fun i hi => ⟨h7 i hi.1, hi.2⟩⟩, h12, h0.later h9, h9⟩
theorem files_ds (h : Ds lo w d s n m) (hn : n ≤ 900000) :
    Calls Tryd.prog 23 #[.pointer (some ⟨d, 0, none⟩)] w fun e w' => ∃ v l, e = .returned (.tuple #[v, .int .i64 (rdyE s.dark)]) ∧ OwnF w' w.heap.size v l ∧ FlL s l ∧ Below w.heap.size w w' := by
  obtain ⟨B, S, h1, rfl, h3, h4⟩ := h
  exact files_any h1 hn
end
end Go.Proofs.YtegdadkejheagaaDoor
