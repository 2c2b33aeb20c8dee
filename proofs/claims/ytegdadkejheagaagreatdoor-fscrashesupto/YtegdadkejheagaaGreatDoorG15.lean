/-
  The document's made, whatever the kind; its Do.
-/
import Derived.Test.YtegdadkejheagaaGreatDoorG12A
import Derived.Test.YtegdadkejheagaaGreatDoorG12B
import Derived.Test.YtegdadkejheagaaGreatDoorG13A
import Derived.Test.YtegdadkejheagaaGreatDoorG13B
import Derived.Test.YtegdadkejheagaaGreatDoorG14
namespace Go.Proofs.YtegdadkejheagaaGreatDoor
open Go.RowKit Go.WideMaps Go.Maps

theorem fail_zero {D : DD} {c : Cl} (h : failF D c = 0) : badF c = false ∧ (2 ≤ c.kind → c.kind ≤ 5 → nmF D.names c.path ≠ 0) := by
  unfold failF at h
  have hb : badF c = false := by
    cases hb : badF c with
    | false => rfl
    | true => rw [hb, if_pos rfl] at h; cases h
  refine ⟨hb, fun h2 h5 h0 => ?_⟩
  rw [hb, if_neg (by decide), if_neg (by omega), if_pos ⟨h2, h5, h0⟩] at h
  cases h
theorem made_any {G S : Nat → Prop} (D : DD) (V : DVs) (c : Cl) (v : Value) (w : World) (h : DM G w D V) {k : Nat} (hD : DL D k) (hk : k ≤ 1000) (hs : Srt D.names) (hls : Srt D.lasting) (hr : ∀ x ∈ D.names, 1 ≤ x.2 ∧ x.2 ≤ D.files.length) (hv : Rd .u8 S w v c.data) (hA : AllB c.data) (hl : c.data.length ≤ 1000) (hp : c.path.size ≤ maxLen) (h1 : 1 ≤ c.kind) (h6 : c.kind ≤ 6) (h0 : 2 ≤ c.kind → c.kind ≤ 5 → nmF D.names c.path ≠ 0) :
    Calls Tryz.prog 17 #[.agg #[V.n, V.l, V.p, V.f, .int .i64 D.quota, .slice none 0 0, .int .i64 D.offAt, .int .i64 D.count, .bool D.off], .agg #[.int .i64 c.kind, .string c.path, .string c.dst, v]] w fun e w' => ∃ V', e = .returned (.agg #[V'.n, V'.l, V'.p, V'.f, .int .i64 (madeF D c).quota, .slice none 0 0, .int .i64 (madeF D c).offAt, .int .i64 (madeF D c).count, .bool (madeF D c).off]) ∧ DM (Gn G w) w' (madeF D c) V' ∧ Below w.heap.size w w' := by
  obtain ⟨kd, pt, pto, da⟩ := c
  simp only at hv hA hl hp h1 h6 h0 ⊢
  by_cases k1 : kd = 1
  · subst k1
    exact made1_any D V pt pto v da w h hD hk hs hv hA
  by_cases k2 : kd = 2
  · subst k2
    exact made2_any D V pt pto v da w h hD hk hv hA hl hr (h0 (by decide) (by decide))
  by_cases k3 : kd = 3
  · subst k3
    exact made3_any D V pt pto v da w h hD hk hv hA hr (h0 (by decide) (by decide))
  by_cases k4 : kd = 4
  · subst k4
    by_cases he : pt = pto
    · subst he
      exact made4s_any D V pt v da w h hD hk hs hv hA
    · exact made4_any D V pt pto v da w h hD hk hs hv hA he
  by_cases k5 : kd = 5
  · subst k5
    exact made5_any D V pt pto v da w h hD hk hs hv hA
  obtain rfl : kd = 6 := by omega
  exact made6_any D V pt pto v da w h hD hk hls hp hv hA
theorem results_row2 {P : Program} {fn : Func} {p u : Tmp} {ty : TypeId} (h : fn.results = #[.cell p ty, .tmp u]) (tmps : Array Value) (w : World) (g : Nat) (t : TypeId) (cs : Array Value) (fr : Nat × Nat) (d : TypeDesc)
    (hp : tmps.getD p undef = .pointer (some ⟨g, 0, none⟩)) (hg : w.heap[g]? = some (.cells cs t fr)) (hu : P.underlying ty = some d) (hd : (match d with | .struct _ | .array _ _ => true | _ => false) = true) (hi : (P.info? ty).map (·.size) = some cs.size) :
    (results fn tmps).run P w = .ok (.tuple #[.agg cs, tmps.getD u undef]) w := by
  have hp' : tmps[p]?.getD undef = .pointer (some ⟨g, 0, none⟩) := by rw [← Array.getD_eq_getD_getElem?]; exact hp
  simp only [results, h]
  simp [hp']
  simp only [asAddr, Sem.run_pure, Result.andThen_ok, run_loadVar_row w g t ty cs fr d hg hu hd hi]
end Go.Proofs.YtegdadkejheagaaGreatDoor
