/-
  Calls of a script that came in; small; a path's folder, the document's way.
-/
import Derived.Test.YtegdadkejheagaaGreatDoorFL0
import Derived.Deep.MidRow
namespace Go.Proofs.YtegdadkejheagaaGreatDoor
open Go.RowKit Go.WideMaps Go.Maps

/-- A call, and where its bytes lie. -/
structure ClM where
  c : Cl
  v : Value
def ClM.l (r : ClM) : List Value := [.int .i64 r.c.kind, .string r.c.path, .string r.c.dst, r.v]
def ClM.ok (w : World) (r : ClM) : Prop := Rd .u8 anyB w r.v r.c.data ∧ AllB r.c.data ∧ r.c.path.size ≤ maxLen ∧ -9223372036854775808 ≤ r.c.kind ∧ r.c.kind < 9223372036854775808
/-- A slice of calls that came in. -/
def RdC (w : World) (v : Value) (es : List ClM) : Prop :=
  ∃ a c, v = .slice a es.length c ∧ es.length ≤ c ∧ (∀ e ∈ es, e.ok w) ∧ (0 < es.length → ∃ b off, a = some ⟨b, off, none⟩ ∧ b < w.heap.size ∧ ∀ i (hi : i < es.length), w.rangeAt b (off + i * 4) (es[i]'hi).l)
theorem ClM.later {w w' : World} {r : ClM} (h : r.ok w) (hb : Below w.heap.size w w') : r.ok w' := ⟨h.1.later hb (Nat.le_refl _), h.2⟩
theorem RdC.later {w w' : World} {v : Value} {es : List ClM} (h : RdC w v es) (hb : Below w.heap.size w w') : RdC w' v es := by
  obtain ⟨a, c, h1, h2, h3, h4⟩ := h
  refine ⟨a, c, h1, h2, fun e he => ClM.later (h3 e he) hb, fun h0 => ?_⟩
  obtain ⟨b, off, h5, h6, h7⟩ := h4 h0
  refine ⟨b, off, h5, Nat.lt_of_lt_of_le h6 hb.size, fun i hi j u hu => ?_⟩
  rw [hb.cell (p := ⟨b, off + i * 4 + j, none⟩) h6]
  exact h7 i hi j u hu
theorem infoCall : (Tryz.prog.info? 38).map (·.size) = some 4 := by kernel_rfl
set_option maxHeartbeats 1000000 in
set_option maxRecDepth 100000 in
theorem small_any (v : Value) (es : List ClM) (w : World) (hr : RdC w v es) (hl : es.length ≤ 140737488355328) :
    Calls Tryz.prog 5 #[v] w fun e w' => ∃ q, e = .returned (.bool q) ∧ (q = true → (∀ r ∈ es, r.c.data.length ≤ 1000) ∧ es.length ≤ 60) ∧ Below w.heap.size w w' := by
  obtain ⟨a, c, rfl, hlc, hok, hrd⟩ := hr
  have KR := Kept.mk hrd
  have KK := Kept.mk hok
  clear hrd hok
  go_enter Tryz.func5, Tryz.ntmps5
  go_wp2
  go_loopw [7] (fun kv wr => ∃ k : Nat, k ≤ es.length ∧ kv = .int .i64 k ∧ (∀ r ∈ es.take k, r.c.data.length ≤ 1000) ∧ Below w.heap.size w wr) (fun kv _ => es.length - (intOf kv).toNat)
  case atStart => exact ⟨0, Nat.zero_le _, rfl, by simp, Below.refl _ _⟩
  case round =>
    obtain ⟨k, hk, rfl, hall, hbel⟩ := hrel
    have KBr := Kept.mk hbel
    have KA := Kept.mk hall
    clear hall
    by_cases hlt : k < es.length
    · have hki : (k : Int) < (es.length : Int) := by omega
      obtain ⟨b, off, rfl, hbl, hrg⟩ := KR.out (by omega)
      obtain ⟨r, hre⟩ : ∃ r, es[k]'hlt = r := ⟨_, rfl⟩
      have hrow : wr.rangeAt b (off + k * 4) r.l := fun j u hu => by
        rw [hbel.cell (p := ⟨b, off + k * 4 + j, none⟩) hbl]
        rw [← hre] at hu
        exact hrg k hlt j u hu
      have hoke := KK.out _ (List.getElem_mem hlt)
      rw [hre] at hoke
      obtain ⟨av, cv, hv, -, -, -⟩ := hoke.1.form
      have Kre := Kept.mk hre
      have e2 : IntKind.i64.wrap ((k : Int) + 1) = (k : Int) + 1 := wr64 (by omega) (by omega)
      unfold ClM.l at hrow
      rw [hv] at hrow
      clear hbel hrg hoke hre hv
      generalize r.c.kind = kd at *
      generalize r.c.path = pt at *
      generalize r.c.dst = pto at *
      have hR := Kept.mk hrow
      clear hrow
      by_cases hbig : 1000 < r.c.data.length
      · have hbi : (1000 : Int) < (r.c.data.length : Int) := by omega
        go_wp2_with (first | (refine wpList_load_mid rfl 38 _ rfl b (off + k * 4) rfl _ _ hR.out Tryz.underlying38 rfl infoCall ?_) | (refine BigFrame.wpList_want rfl (fun K hK => wp_store_row 38 _ _ rfl wr.heap.size _ rfl rfl 38 _ (heap_alloc_new wr _) infoCall rfl rfl (hK _ _ ?_)); rw [World.setRow_alloc_new]))
        go_ret
        exact ⟨_, rfl, fun h => absurd h (by simp), KBr.out.alloc KBr.out.size _⟩
      · have hbi : ¬ (1000 : Int) < (r.c.data.length : Int) := by omega
        go_wp2_with (first | (refine wpList_load_mid rfl 38 _ rfl b (off + k * 4) rfl _ _ hR.out Tryz.underlying38 rfl infoCall ?_) | (refine BigFrame.wpList_want rfl (fun K hK => wp_store_row 38 _ _ rfl wr.heap.size _ rfl rfl 38 _ (heap_alloc_new wr _) infoCall rfl rfl (hK _ _ ?_)); rw [World.setRow_alloc_new]))
        go_roundw
        case rel => exact ⟨k + 1, by omega, by go_num, fun x hx => by
          rw [List.take_add_one, List.getElem?_eq_getElem hlt, List.mem_append] at hx
          rcases hx with hx | hx
          · exact KA.out x hx
          · simp at hx
            subst hx
            rw [Kre.out]
            omega, KBr.out.alloc KBr.out.size _⟩
        case measure => simp [intOf]; omega
    · have hki : ¬ (k : Int) < (es.length : Int) := by omega
      have hall := KA.out
      rw [List.take_of_length_le (by omega)] at hall
      have KA2 := Kept.mk hall
      clear hbel hall
      go_wp2
      go_ret
      by_cases h60 : es.length ≤ 60
      · exact .inr ⟨congrArg (fun q => Ending.returned (Value.bool q)) (decide_eq_true (show (es.length : Int) ≤ 60 by omega)), ⟨KA2.out, h60⟩, KBr.out⟩
      · exact .inl ⟨congrArg (fun q => Ending.returned (Value.bool q)) (decide_eq_false (show ¬ (es.length : Int) ≤ 60 by omega)), KBr.out⟩
end Go.Proofs.YtegdadkejheagaaGreatDoor
