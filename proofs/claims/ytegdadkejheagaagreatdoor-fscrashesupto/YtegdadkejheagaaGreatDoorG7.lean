/-
  The document's lists in memory: rows that are read, rows that are added.
-/
import Derived.Test.YtegdadkejheagaaGreatDoorFL4
import Derived.Test.YtegdadkejheagaaGreatDoorFM9
import Derived.Deep.MidRow
import Derived.Test.YtegdadkejheagaaGreatDoorFX0
namespace Go.Proofs.YtegdadkejheagaaGreatDoor
open Go.RowKit Go.WideMaps Go.Maps

/-- A slice of rows of k cells, read. -/
def RdK (G : Nat → Prop) (w : World) (k : Nat) (v : Value) (rows : List (List Value)) : Prop :=
  ∃ a c, v = .slice a rows.length c ∧ rows.length ≤ c ∧ (0 < rows.length → ∃ b off, a = some ⟨b, off, none⟩ ∧ b < w.heap.size ∧ G b ∧ ∀ i (hi : i < rows.length), w.rangeAt b (off + i * k) (rows[i]'hi))
theorem RdK.nil (G : Nat → Prop) (w : World) (k : Nat) : RdK G w k (.slice none 0 0) [] := ⟨none, 0, rfl, Nat.le_refl _, fun h => absurd h (by simp)⟩
theorem RdK.far {G G' : Nat → Prop} {w w' : World} {k : Nat} {v : Value} {rows : List (List Value)} (h : RdK G w k v rows) (hs : w.heap.size ≤ w'.heap.size) (hb : ∀ b, b < w.heap.size → G b → G' b ∧ w'.heap[b]? = w.heap[b]?) : RdK G' w' k v rows := by
  obtain ⟨a, c, h1, h2, h3⟩ := h
  refine ⟨a, c, h1, h2, fun h0 => ?_⟩
  obtain ⟨b, off, h4, h5, h6, h7⟩ := h3 h0
  refine ⟨b, off, h4, Nat.lt_of_lt_of_le h5 hs, (hb b h5 h6).1, fun i hi j u hu => ?_⟩
  have := h7 i hi j u hu
  unfold World.cell? at *
  rw [(hb b h5 h6).2]
  exact this
theorem RdK.later {G : Nat → Prop} {w w' : World} {k : Nat} {v : Value} {rows : List (List Value)} (h : RdK G w k v rows) (hb : Below w.heap.size w w') : RdK G w' k v rows := h.far hb.size (fun b hlt hg => ⟨hg, hb.block b hlt⟩)
theorem RdK.weak {G G' : Nat → Prop} {w : World} {k : Nat} {v : Value} {rows : List (List Value)} (h : RdK G w k v rows) (hG : ∀ b, b < w.heap.size → G b → G' b) : RdK G' w k v rows := h.far (Nat.le_refl _) (fun b hlt hg => ⟨hG b hlt hg, rfl⟩)
/-- Rows of the call's own. -/
def OwK (w : World) (base : Nat) (t : TypeId) (k : Nat) (v : Value) (rows : List (List Value)) : Prop := w.ownsRow base t k v rows.length rows.flatten ∧ ∀ r ∈ rows, r.length = k
theorem OwK.nil (w : World) (base : Nat) (t : TypeId) (k : Nat) : OwK w base t k (.slice none 0 0) [] := ⟨World.ownsRow_nil w base t k, fun _ h => absurd h (by simp)⟩
theorem flat_get {k : Nat} : ∀ {rows : List (List Value)}, (∀ r ∈ rows, r.length = k) → ∀ i (hi : i < rows.length) j, j < k → rows.flatten[i * k + j]? = (rows[i]'hi)[j]?
  | [], _, _, hi, _, _ => absurd hi (by simp)
  | r :: rows, h, 0, _, j, hj => by
    rw [List.flatten_cons, Nat.zero_mul, Nat.zero_add, List.getElem?_append_left (by rw [h r (by simp)]; exact hj)]
    rfl
  | r :: rows, h, i + 1, hi, j, hj => by
    have hr := h r (by simp)
    rw [List.flatten_cons, List.getElem?_append_right (by rw [hr, Nat.succ_mul]; omega), hr, show (i + 1) * k + j - k = i * k + j from by rw [Nat.succ_mul]; omega]
    exact flat_get (fun x hx => h x (by simp [hx])) i (by simpa using hi) j hj
theorem OwK.rd {w : World} {base : Nat} {t : TypeId} {k : Nat} {v : Value} {rows : List (List Value)} (h : OwK w base t k v rows) : RdK (fun b => v.ownBlock = some b) w k v rows := by
  have hlt := fun g hg => ownsRow_lt (g := g) h.1 hg
  rcases h.1.2 with ⟨rfl, hn⟩ | ⟨g, cap, cur, rfl, hbg, hg, hnc, hcm, -⟩
  · have : rows = [] := List.eq_nil_of_length_eq_zero hn
    subst this
    exact RdK.nil _ _ _
  · refine ⟨some ⟨g, 0, none⟩, cap, rfl, hnc, fun h0 => ⟨g, 0, rfl, hlt g rfl, rfl, fun i hi j u hu => ?_⟩⟩
    have hj : j < k := by
      have h1 := h.2 _ (List.getElem_mem hi)
      rcases Nat.lt_or_ge j k with h2 | h2
      · exact h2
      · rw [List.getElem?_eq_none (by omega)] at hu; cases hu
    have := World.ownsRow.cells h.1 (g := g) rfl (i * k + j) u (by rw [flat_get h.2 i hi j hj]; exact hu)
    rw [add_plain] at this
    rw [← this]
    congr 2
    omega
theorem OwK.far {w w' : World} {base : Nat} {t : TypeId} {k : Nat} {v : Value} {rows : List (List Value)} (h : OwK w base t k v rows) (hb : ∀ g, v.ownBlock = some g → w'.heap[g]? = w.heap[g]?) : OwK w' base t k v rows := ⟨ownsRow_far h.1 hb, h.2⟩
theorem OwK.later {w w' : World} {base : Nat} {t : TypeId} {k : Nat} {v : Value} {rows : List (List Value)} (h : OwK w base t k v rows) (hb : Below w.heap.size w w') : OwK w' base t k v rows := h.far (fun g hg => hb.block g (ownsRow_lt h.1 hg))
theorem OwK.lt {w : World} {base : Nat} {t : TypeId} {k : Nat} {v : Value} {rows : List (List Value)} (h : OwK w base t k v rows) : ∀ g, v.ownBlock = some g → base ≤ g ∧ g < w.heap.size := fun g hg => ⟨by
  rcases h.1.2 with ⟨rfl, hn⟩ | ⟨g', cap, cur, rfl, hbg, -⟩
  · cases hg
  · injection hg with hg; subst hg; exact hbg, ownsRow_lt h.1 hg⟩
theorem OwK.form {w : World} {base : Nat} {t : TypeId} {k : Nat} {v : Value} {rows : List (List Value)} (h : OwK w base t k v rows) : ∃ a c, v = .slice a rows.length c := by
  rcases h.1.2 with ⟨h1, h2⟩ | ⟨_, cap, cur, h1, -⟩
  · exact ⟨none, 0, by rw [h1, h2]⟩
  · exact ⟨_, _, h1⟩
section
variable {o : Oper} {a : Act} {w : World} {K : Act → World → Prop} {Q : Exit → Act → World → Prop}
/-- append of one row that lies in a block of its own. -/
theorem wp_append_K (s x : Operand) (ts t : TypeId) (ho : o.op = .call { callee := .builtin .append, args := #[s, x], argTypes := #[ts, ts] })
    (k bytes : Nat) (i : TypeInfo) (z : Value) (hu : Tryz.prog.underlying ts = some (.slice t)) (hi : Tryz.prog.info? t = some i) (hz : i.zero = some z) (hs : i.size = k) (hb0 : i.bytes = bytes) (hc : z.cells.size = k) (hb1 : 0 < k) (hb2 : bytes ≤ 1000)
    (base : Nat) (v : Value) (l : List (List Value)) (hsv : a.eval s = v) (hown : OwK w base t k v l) (r : List Value) (hrl : r.length = k) (h1 : ∀ u ∈ r, u.oneCell' = true) (g c : Nat) (hx : a.eval x = .slice (some ⟨g, 0, none⟩) 1 c) (hblk : w.rangeAt g 0 r) (hl : l.length ≤ 1000000) (hb : base ≤ w.heap.size)
    (h : ∀ v' w', OwK w' base t k v' (l ++ [r]) → w.grownBy w' v.ownBlock → K (a.put o.dst v') w') : o.wp Tryz.prog a w K Q := by
  have hcell : ∀ j u, r[j]? = some u → w.cell? ((⟨g, 0, none⟩ : Addr).add j) = some u := fun j u hu => by
    rw [add_plain]
    exact hblk j u hu
  have hm : (l.length + 1) * bytes ≤ 1000001 * 1000 := Nat.mul_le_mul (by omega) hb2
  obtain ⟨v', w', hr, h2, h3, -, h5⟩ := run_append_own_at (P := Tryz.prog) w base ts o.type t i z k bytes hu hi hz hs hb0 hc hb1 v _ _ hown.1 ⟨g, 0, none⟩ 1 c r (by rw [hrl]; omega) hcell h1 (by unfold maxLen; omega) (by omega) hb
  unfold Oper.wp execOp
  simp only [ho, resolve, invoke, builtin, Sem.run_bind, Sem.run_pure, Result.andThen_ok, List.map_toArray, List.map_cons, List.map_nil, hsv, hx, hr]
  refine h v' w' ⟨?_, fun y hy => ?_⟩ h3
  · rw [List.flatten_append, List.length_append]
    simpa using h2
  · rcases List.mem_append.1 hy with hy | hy
    · exact hown.2 y hy
    · simp at hy; rw [hy]; exact hrl
end
set_option maxRecDepth 100000 in
theorem infoNm : ∃ i z, Tryz.prog.info? 81 = some i ∧ i.zero = some z ∧ i.size = 2 ∧ i.bytes = 24 ∧ z.cells.size = 2 := ⟨_, _, rfl, rfl, rfl, rfl, rfl⟩
theorem infoNm1 : (Tryz.prog.info? 81).map (·.size) = some 2 := by kernel_rfl
/-- A name's cells. -/
def nmC (x : ByteArray × Nat) : List Value := [.string x.1, .int .i64 (x.2 : Nat)]
abbrev OwN (w : World) (base : Nat) (v : Value) (l : NL) : Prop := OwK w base 81 2 v (l.map nmC)
abbrev RdNm (G : Nat → Prop) (w : World) (v : Value) (l : NL) : Prop := RdK G w 2 v (l.map nmC)

open Go.RowKit Go.WideMaps Go.Maps

theorem nmC_ones (x : ByteArray × Nat) : ∀ u ∈ nmC x, u.oneCell' = true := by
  intro u hu
  unfold nmC at hu
  simp only [List.mem_cons, List.not_mem_nil, or_false] at hu
  rcases hu with rfl | rfl <;> rfl
theorem own_snoc {w : World} {base : Nat} {v : Value} {m : NL} {x : ByteArray × Nat} (h : OwK w base 81 2 v (m.map nmC ++ [nmC x])) : OwN w base v (m ++ [x]) := by
  show OwK w base 81 2 v ((m ++ [x]).map nmC)
  rw [List.map_append]
  exact h
theorem str_eqB {p q : ByteArray} (h : p = q) : (p.toList == q.toList) = true := by subst h; simp
/-- A name's block. -/
theorem nm_box (w : World) (x : ByteArray × Nat) : ∃ wx, w.alloc (.cells #[.string x.1, .int .i64 (x.2 : Nat)] 81) = wx ∧ Below w.heap.size w wx ∧ w.heap.size < wx.heap.size ∧ wx.cell? ⟨w.heap.size, 0, none⟩ = some (.string x.1) ∧ wx.cell? ⟨w.heap.size, 1, none⟩ = some (.int .i64 (x.2 : Nat)) ∧ wx.rangeAt w.heap.size 0 (nmC x) := by
  refine ⟨_, rfl, (Below.refl _ _).alloc (Nat.le_refl _) _, by simp, alloc_cell _ _ _ _ _ (by simp), alloc_cell _ _ _ _ _ (by simp), fun j u hu => ?_⟩
  rw [Nat.zero_add]
  exact alloc_cell _ _ _ _ _ (by simpa [nmC] using hu)
theorem put_len2 (p : ByteArray) (f : Nat) : ∀ (l : NL) (s : NL × Bool), (l.foldl (putO p f) s).1.length ≤ s.1.length + 2 * l.length
  | [], s => by simp
  | x :: l, s => by
    rw [List.foldl_cons]
    have h := put_len2 p f l (putO p f s x)
    have h2 : (putO p f s x).1.length ≤ s.1.length + 2 := by
      unfold putO
      simp only
      split <;> split <;> simp
    rw [List.length_cons]
    omega
theorem RdK.openMap {α : Type} {f : α → List Value} {G : Nat → Prop} {w : World} {k : Nat} {v : Value} {l : List α} (h : RdK G w k v (l.map f)) : ∃ a c, v = .slice a l.length c ∧ l.length ≤ c ∧ (0 < l.length → ∃ b off, a = some ⟨b, off, none⟩ ∧ b < w.heap.size ∧ G b ∧ ∀ i (hi : i < l.length), w.rangeAt b (off + i * k) (f (l[i]'hi))) := by
  obtain ⟨a, c, h1, h2, h3⟩ := h
  refine ⟨a, c, by rw [h1, List.length_map], by rw [List.length_map] at h2; exact h2, fun h0 => ?_⟩
  obtain ⟨b, off, h4, h5, h6, h7⟩ := h3 (by rw [List.length_map]; exact h0)
  refine ⟨b, off, h4, h5, h6, fun i hi => ?_⟩
  have := h7 i (by rw [List.length_map]; exact hi)
  rwa [List.getElem_map] at this
set_option maxHeartbeats 4000000 in
set_option maxRecDepth 100000 in
theorem put_any {G : Nat → Prop} (v : Value) (l : NL) (p : ByteArray) (f : Nat) (w : World) (h : RdNm G w v l) (hl : l.length ≤ 100000) :
    Calls Tryz.prog 32 #[v, .string p, .int .i64 (f : Nat)] w fun e w' => ∃ v', e = .returned v' ∧ OwN w' w.heap.size v' (putF l p f) ∧ Below w.heap.size w w' := by
  obtain ⟨i0, z0, hi, hz, hs, hb, hc⟩ := infoNm
  obtain ⟨a, c, rfl, hlc, hrd⟩ := h.openMap
  clear h
  have KR := Kept.mk hrd
  have KP : Kept (putF l p f = if (l.foldl (putO p f) ([], decide (f = 0))).2 = true then (l.foldl (putO p f) ([], decide (f = 0))).1 else (l.foldl (putO p f) ([], decide (f = 0))).1 ++ [(p, f)]) := ⟨rfl⟩
  have Kl2 := Kept.mk (fun k => put_len2 p f (l.take k) ([], decide (f = 0)))
  clear hrd
  go_enter Tryz.func32, Tryz.ntmps32
  go_wp2
  go_loopw [7, 8, 15] (fun mv dv kv wr => ∃ (k : Nat) (m : NL) (dn : Bool), k ≤ l.length ∧ kv = .int .i64 k ∧ dv = .bool dn ∧ (l.take k).foldl (putO p f) ([], decide (f = 0)) = (m, dn) ∧ OwN wr w.heap.size mv m ∧ Below w.heap.size w wr) (fun _ _ kv _ => l.length - (intOf kv).toNat)
  case atStart => exact ⟨0, [], decide (f = 0), Nat.zero_le _, rfl, by by_cases hf : f = 0 <;> simp [hf], rfl, OwK.nil _ _ _ _, Below.refl _ _⟩
  case round =>
    obtain ⟨k, m, dn, hk, rfl, rfl, hfold, how, hbel⟩ := hrel
    have KBr := Kept.mk hbel
    have KO := Kept.mk how
    have KFd := Kept.mk hfold
    have hml : m.length ≤ 200000 := by
      have := Kl2.out k
      rw [hfold, List.length_take] at this
      simp only [List.length_nil] at this
      omega
    obtain ⟨ma, mc, rfl⟩ := how.form
    rw [List.length_map] at KO ⊢
    clear hfold how
    by_cases hlt : k < l.length
    · have hki : (k : Int) < (l.length : Int) := by omega
      obtain ⟨b, off, rfl, hbl, -, hrg⟩ := KR.out (by omega)
      obtain ⟨x, hx⟩ : ∃ x, l[k]'hlt = x := ⟨_, rfl⟩
      have hrow : wr.rangeAt b (off + k * 2) (nmC x) := fun j u hu => by
        rw [hbel.cell (p := ⟨b, off + k * 2 + j, none⟩) hbl]
        have h2 := hrg k hlt j u
        rw [hx] at h2
        exact h2 hu
      have KFs : Kept ((l.take (k + 1)).foldl (putO p f) ([], decide (f = 0)) = putO p f (m, dn) x) := ⟨by
        rw [List.take_add_one, List.getElem?_eq_getElem hlt, List.foldl_append, KFd.out, hx]
        rfl⟩
      have e2 : IntKind.i64.wrap ((k : Int) + 1) = (k : Int) + 1 := wr64 (by omega) (by omega)
      obtain ⟨wx, hwx, hbx, hsx, c0, c1, hrx⟩ := nm_box wr x
      have KBx : Kept (Below w.heap.size w wx) := ⟨hbel.trans (hbx.mono hbel.size)⟩
      have KOx : Kept (OwN wx w.heap.size (.slice ma m.length mc) m) := ⟨KO.out.later hbx⟩
      have Kmg : Kept (∀ g', (Value.slice ma m.length mc).ownBlock = some g' → g' < wr.heap.size) := ⟨fun g' hg' => (KO.out.lt g' hg').2⟩
      obtain ⟨g, hgw⟩ : ∃ g, wr.heap.size = g := ⟨_, rfl⟩
      rw [hgw] at c0 c1 hrx hsx Kmg
      have Kg := Kept.mk hsx
      have KRx : Kept (∀ W, Fx (fun i => g ≠ i) wx W → W.rangeAt g 0 (nmC x)) := ⟨fun W hW j u hu => by
        have := hrx j u hu
        unfold World.cell? at *
        rw [hW.block g Kg.out (fun h => h rfl)]
        exact this⟩
      have hR := Kept.mk hrow
      unfold nmC at hR
      have hpe : Kept ((x.1.toList == p.toList) = true ↔ x.1 = p) := ⟨⟨fun h => str_of_list h, fun h => str_eqB h⟩⟩
      have hle : leB p x.1 = (Op.bytesLess p.toList x.1.toList || p.toList == x.1.toList) := rfl
      have Kle := Kept.mk hle
      clear hbel hrow hbx hsx hrx hx hrg hle
      obtain ⟨xp, xf⟩ := x
      simp only at c0 c1 hwx hR hpe Kle
      have KRx : Kept (∀ W, Fx (fun i => g ≠ i) wx W → W.rangeAt g 0 [.string xp, .int .i64 (xf : Nat)]) := KRx
      go_upto_region 6 with (first | (refine wpList_load_mid rfl 81 _ rfl b (off + k * 2) rfl _ _ hR.out Tryz.underlying81 rfl infoNm1 ?_) | (refine BigFrame.wpList_want rfl (fun K hK => wp_store_row 81 _ _ rfl wr.heap.size _ rfl rfl 81 _ (heap_alloc_new wr _) infoNm1 rfl rfl (hK _ _ ?_)); rw [World.setRow_alloc_new, hwx]))
      cases dn with
      | true =>
        cases he : (xp.toList == p.toList) with
        | true =>
          have KN : Kept (putO p f (m, true) (xp, xf) = (m, true)) := ⟨by unfold putO; simp [hpe.out.1 he]⟩
          go_wp2
          go_roundw
          case rel => exact ⟨k + 1, m, true, by omega, by go_num, rfl, by rw [KFs.out, KN.out], KOx.out, KBx.out⟩
          case measure => simp [intOf]; omega
        | false =>
          have hne : ¬ xp = p := fun h => by rw [hpe.out.2 h] at he; cases he
          have KN : Kept (putO p f (m, true) (xp, xf) = (m ++ [(xp, xf)], true)) := ⟨by unfold putO; simp [hne]⟩
          clear hne
          obtain ⟨wz, hwz, hbz, hsz, -, -, hrz⟩ := nm_box wx (xp, xf)
          simp only at hwz
          have KBz : Kept (Below w.heap.size w wz) := ⟨KBx.out.trans (hbz.mono KBx.out.size)⟩
          have KOz : Kept (OwN wz w.heap.size (.slice ma m.length mc) m) := ⟨KOx.out.later hbz⟩
          have KRz := Kept.mk hrz
          clear hbz hsz hrz
          go_wp2_with (first | (refine wpList_load_mid rfl 81 _ rfl g 0 rfl _ _ (KRx.out _ (Fx.refl _ _)) Tryz.underlying81 rfl infoNm1 ?_) | (at_builtin; go_loud (refine wpList_plain rfl (fun K hK => wp_append_K _ _ 31 81 rfl 2 24 i0 z0 Tryz.underlying31 hi hz hs hb hc (by decide) (by decide) w.heap.size (.slice ma m.length mc) (m.map nmC) rfl KOz.out (nmC (xp, xf)) rfl (nmC_ones _) wx.heap.size 1 rfl KRz.out (by rw [List.length_map]; omega) KBz.out.size (fun v2 w2 o2 g2 => hK _ _ ?_)); have KO2 : Kept (OwN w2 w.heap.size v2 (m ++ [(xp, xf)])) := ⟨own_snoc o2⟩; have KB2 := Kept.mk (KBz.out.grown g2 KBz.out.size (fun q hq => (KOz.out.lt q hq).1)); clear o2 g2)))
          go_roundw
          case rel => exact ⟨k + 1, m ++ [(xp, xf)], true, by omega, by go_num, rfl, by rw [KFs.out, KN.out], KO2.out, KB2.out⟩
          case measure => simp [intOf]; omega
      | false =>
        cases hb2 : leB p xp with
        | true =>
          rw [Kle.out] at hb2
          obtain ⟨wz, hwz, hbz, hsz, -, -, hrz⟩ := nm_box wx (p, f)
          have KBz : Kept (Below w.heap.size w wz) := ⟨KBx.out.trans (hbz.mono KBx.out.size)⟩
          have KOz : Kept (OwN wz w.heap.size (.slice ma m.length mc) m) := ⟨KOx.out.later hbz⟩
          have KRz := Kept.mk hrz
          have KFz : Kept (Fx (fun i => g ≠ i) wx wz) := ⟨Fx.ofBelow hbz (Nat.le_refl _)⟩
          simp only at hwz
          clear hbz hsz hrz
          cases he : (xp.toList == p.toList) with
          | true =>
            have KN : Kept (putO p f (m, false) (xp, xf) = (m ++ [(p, f)], true)) := ⟨by have h1 : leB p xp = true := hb2; unfold putO; simp [hpe.out.1 he]; simpa [hpe.out.1 he] using h1⟩
            go_upto_region 9 with ((at_builtin; go_loud (refine wpList_plain rfl (fun K hK => wp_append_K _ _ 31 81 rfl 2 24 i0 z0 Tryz.underlying31 hi hz hs hb hc (by decide) (by decide) w.heap.size (.slice ma m.length mc) (m.map nmC) rfl KOz.out (nmC (p, f)) rfl (nmC_ones _) wx.heap.size 1 rfl KRz.out (by rw [List.length_map]; omega) KBz.out.size (fun v2 w2 o2 g2 => hK _ _ ?_)); have KO2 : Kept (OwN w2 w.heap.size v2 (m ++ [(p, f)])) := ⟨own_snoc o2⟩; have KB2 := Kept.mk (KBz.out.grown g2 KBz.out.size (fun q hq => (KOz.out.lt q hq).1)); have KF2 : Kept (Fx (fun i => g ≠ i) wx w2) := ⟨KFz.out.trans ((Fx.grown g2).weak (fun i hi e => by have h1 := Kmg.out i e; omega)) (fun _ _ h => h)⟩; clear o2 g2)))
            have d0 : w2.cell? ⟨g, 0, none⟩ = some (.string xp) := by have := KRx.out w2 KF2.out 0 _ rfl; rwa [Nat.add_zero] at this
            go_wp2
            go_roundw
            case rel => exact ⟨k + 1, m ++ [(p, f)], true, by omega, by go_num, rfl, by rw [KFs.out, KN.out], KO2.out, KB2.out⟩
            case measure => simp [intOf]; omega
          | false =>
            have hne : ¬ xp = p := fun h => by rw [hpe.out.2 h] at he; cases he
            have KN : Kept (putO p f (m, false) (xp, xf) = (m ++ [(p, f)] ++ [(xp, xf)], true)) := ⟨by have h1 : leB p xp = true := hb2; unfold putO; simp [hne, h1]⟩
            clear hne
            go_upto_region 9 with ((at_builtin; go_loud (refine wpList_plain rfl (fun K hK => wp_append_K _ _ 31 81 rfl 2 24 i0 z0 Tryz.underlying31 hi hz hs hb hc (by decide) (by decide) w.heap.size (.slice ma m.length mc) (m.map nmC) rfl KOz.out (nmC (p, f)) rfl (nmC_ones _) wx.heap.size 1 rfl KRz.out (by rw [List.length_map]; omega) KBz.out.size (fun v2 w2 o2 g2 => hK _ _ ?_)); have KO2 : Kept (OwN w2 w.heap.size v2 (m ++ [(p, f)])) := ⟨own_snoc o2⟩; have KB2 := Kept.mk (KBz.out.grown g2 KBz.out.size (fun q hq => (KOz.out.lt q hq).1)); have KF2 : Kept (Fx (fun i => g ≠ i) wx w2) := ⟨KFz.out.trans ((Fx.grown g2).weak (fun i hi e => by have h1 := Kmg.out i e; omega)) (fun _ _ h => h)⟩; clear o2 g2)))
            obtain ⟨a2, c2, hv2⟩ := KO2.out.form
            rw [List.length_map, List.length_append, List.length_singleton] at hv2
            subst hv2
            obtain ⟨w3, hw3, hb3, hs3, -, -, hr3⟩ := nm_box w2 (xp, xf)
            have KB3 : Kept (Below w.heap.size w w3) := ⟨KB2.out.trans (hb3.mono KB2.out.size)⟩
            have KO3 : Kept (OwN w3 w.heap.size (.slice a2 (m.length + 1) c2) (m ++ [(p, f)])) := ⟨KO2.out.later hb3⟩
            have KR3 := Kept.mk hr3
            have d0 : w2.cell? ⟨g, 0, none⟩ = some (.string xp) := by have := KRx.out w2 KF2.out 0 _ rfl; rwa [Nat.add_zero] at this
            have hm2 : (m ++ [(p, f)]).length ≤ 200001 := by rw [List.length_append, List.length_singleton]; omega
            simp only at hw3
            clear hb3 hs3 hr3
            go_wp2_with (first | (refine wpList_load_mid rfl 81 _ rfl g 0 rfl _ _ (KRx.out _ KF2.out) Tryz.underlying81 rfl infoNm1 ?_) | (at_builtin; go_loud (refine wpList_plain rfl (fun K hK => wp_append_K _ _ 31 81 rfl 2 24 i0 z0 Tryz.underlying31 hi hz hs hb hc (by decide) (by decide) w.heap.size (.slice a2 (m.length + 1) c2) ((m ++ [(p, f)]).map nmC) rfl KO3.out (nmC (xp, xf)) rfl (nmC_ones _) w2.heap.size 1 rfl KR3.out (by rw [List.length_map]; omega) KB3.out.size (fun v4 w4 o2 g2 => hK _ _ ?_)); have KO4 : Kept (OwN w4 w.heap.size v4 (m ++ [(p, f)] ++ [(xp, xf)])) := ⟨own_snoc o2⟩; have KB4 := Kept.mk (KB3.out.grown g2 KB3.out.size (fun q hq => (KO3.out.lt q hq).1)); clear o2 g2)))
            go_roundw
            case rel => exact ⟨k + 1, m ++ [(p, f)] ++ [(xp, xf)], true, by omega, by go_num, rfl, by rw [KFs.out, KN.out], KO4.out, KB4.out⟩
            case measure => simp [intOf]; omega
        | false =>
          rw [Kle.out] at hb2
          have hne : ¬ xp = p := fun h => by
            have h1 : leB p xp = false := hb2
            rw [leB_iff.2 (.inr h.symm)] at h1
            cases h1
          have he : (xp.toList == p.toList) = false := str_ne_list hne
          have KN : Kept (putO p f (m, false) (xp, xf) = (m ++ [(xp, xf)], false)) := ⟨by have h1 : leB p xp = false := hb2; unfold putO; simp [hne, h1]⟩
          clear hne
          obtain ⟨wz, hwz, hbz, hsz, -, -, hrz⟩ := nm_box wx (xp, xf)
          have KBz : Kept (Below w.heap.size w wz) := ⟨KBx.out.trans (hbz.mono KBx.out.size)⟩
          have KOz : Kept (OwN wz w.heap.size (.slice ma m.length mc) m) := ⟨KOx.out.later hbz⟩
          have KRz := Kept.mk hrz
          simp only at hwz
          clear hbz hsz hrz
          go_wp2_with (first | (refine wpList_load_mid rfl 81 _ rfl g 0 rfl _ _ (KRx.out _ (Fx.refl _ _)) Tryz.underlying81 rfl infoNm1 ?_) | (at_builtin; go_loud (refine wpList_plain rfl (fun K hK => wp_append_K _ _ 31 81 rfl 2 24 i0 z0 Tryz.underlying31 hi hz hs hb hc (by decide) (by decide) w.heap.size (.slice ma m.length mc) (m.map nmC) rfl KOz.out (nmC (xp, xf)) rfl (nmC_ones _) wx.heap.size 1 rfl KRz.out (by rw [List.length_map]; omega) KBz.out.size (fun v2 w2 o2 g2 => hK _ _ ?_)); have KO2 : Kept (OwN w2 w.heap.size v2 (m ++ [(xp, xf)])) := ⟨own_snoc o2⟩; have KB2 := Kept.mk (KBz.out.grown g2 KBz.out.size (fun q hq => (KOz.out.lt q hq).1)); clear o2 g2)))
          go_roundw
          case rel => exact ⟨k + 1, m ++ [(xp, xf)], false, by omega, by go_num, rfl, by rw [KFs.out, KN.out], KO2.out, KB2.out⟩
          case measure => simp [intOf]; omega
    · have hki : ¬ (k : Int) < (l.length : Int) := by omega
      have KE : Kept (putF l p f = if dn = true then m else m ++ [(p, f)]) := ⟨by
        have := KFd.out
        rw [List.take_of_length_le (by omega)] at this
        rw [KP.out, this]⟩
      cases dn with
      | true =>
        go_wp2
        go_ret
        have KE2 : putF l p f = m := KE.out
        rw [KE2]
        exact ⟨_, rfl, KO.out, KBr.out⟩
      | false =>
        obtain ⟨wz, hwz, hbz, hsz, -, -, hrz⟩ := nm_box wr (p, f)
        have KBz : Kept (Below w.heap.size w wz) := ⟨hbel.trans (hbz.mono hbel.size)⟩
        have KOz : Kept (OwN wz w.heap.size (.slice ma m.length mc) m) := ⟨KO.out.later hbz⟩
        have KRz := Kept.mk hrz
        simp only at hwz
        clear hbz hsz hrz hbel
        go_wp2_with ((at_builtin; go_loud (refine wpList_plain rfl (fun K hK => wp_append_K _ _ 31 81 rfl 2 24 i0 z0 Tryz.underlying31 hi hz hs hb hc (by decide) (by decide) w.heap.size (.slice ma m.length mc) (m.map nmC) rfl KOz.out (nmC (p, f)) rfl (nmC_ones _) wr.heap.size 1 rfl KRz.out (by rw [List.length_map]; omega) KBz.out.size (fun v2 w2 o2 g2 => hK _ _ ?_)); have KO2 : Kept (OwN w2 w.heap.size v2 (m ++ [(p, f)])) := ⟨own_snoc o2⟩; have KB2 := Kept.mk (KBz.out.grown g2 KBz.out.size (fun q hq => (KOz.out.lt q hq).1)); clear o2 g2)))
        go_ret
        have KE2 : putF l p f = m ++ [(p, f)] := KE.out
        rw [KE2]
        exact ⟨_, rfl, KO2.out, KB2.out⟩

open Go.RowKit Go.WideMaps Go.Maps

theorem lk_append (l m : NL) (p : ByteArray) : lk (l ++ m) p = if lk l p = none then lk m p else lk l p := by
  induction l with
  | nil => simp [lk]
  | cons x l ih =>
    show (if x.1 = p then some x.2 else lk (l ++ m) p) = if (if x.1 = p then some x.2 else lk l p) = none then lk m p else (if x.1 = p then some x.2 else lk l p)
    by_cases e : x.1 = p
    · simp [e]
    · simp only [if_neg e]
      exact ih
set_option maxHeartbeats 1000000 in
set_option maxRecDepth 100000 in
theorem at_any {G : Nat → Prop} (v : Value) (l : NL) (p : ByteArray) (w : World) (h : RdNm G w v l) (hl : l.length ≤ 100000) :
    Calls Tryz.prog 43 #[v, .string p] w fun e w' => e = .returned (.int .i64 ((nmF l p : Nat) : Int)) ∧ Below w.heap.size w w' := by
  obtain ⟨a, c, rfl, hlc, hrd⟩ := h.openMap
  clear h
  have KR := Kept.mk hrd
  clear hrd
  go_enter Tryz.func43, Tryz.ntmps43
  go_wp2
  go_loopw [9] (fun kv wr => ∃ k : Nat, k ≤ l.length ∧ kv = .int .i64 k ∧ lk (l.take k) p = none ∧ Below w.heap.size w wr) (fun kv _ => l.length - (intOf kv).toNat)
  case atStart => exact ⟨0, Nat.zero_le _, rfl, rfl, Below.refl _ _⟩
  case round =>
    obtain ⟨k, hk, rfl, hno, hbel⟩ := hrel
    have KBr := Kept.mk hbel
    have KNo := Kept.mk hno
    clear hno
    by_cases hlt : k < l.length
    · have hki : (k : Int) < (l.length : Int) := by omega
      obtain ⟨b, off, rfl, hbl, -, hrg⟩ := KR.out (by omega)
      obtain ⟨x, hx⟩ : ∃ x, l[k]'hlt = x := ⟨_, rfl⟩
      have hrow : wr.rangeAt b (off + k * 2) (nmC x) := fun j u hu => by
        rw [hbel.cell (p := ⟨b, off + k * 2 + j, none⟩) hbl]
        have h2 := hrg k hlt j u
        rw [hx] at h2
        exact h2 hu
      have e2 : IntKind.i64.wrap ((k : Int) + 1) = (k : Int) + 1 := wr64 (by omega) (by omega)
      have KLk : Kept (lk (l.take (k + 1)) p = if x.1 = p then some x.2 else none) := ⟨by
        rw [List.take_add_one, List.getElem?_eq_getElem hlt, lk_append, if_pos KNo.out, hx]
        rfl⟩
      have KLl : Kept (∀ f, lk (l.take (k + 1)) p = some f → nmF l p = f) := ⟨fun f hf => by
        have : lk l p = some f := by
          have h1 := lk_append (l.take (k + 1)) (l.drop (k + 1)) p
          rw [List.take_append_drop, hf] at h1
          simpa using h1
        unfold nmF
        rw [this]
        rfl⟩
      obtain ⟨xp, xf⟩ := x
      obtain ⟨wx, hwx, hbx, hsx, c0, c1, hrx⟩ := nm_box wr (xp, xf)
      have KBx : Kept (Below w.heap.size w wx) := ⟨hbel.trans (hbx.mono hbel.size)⟩
      obtain ⟨g, hgw⟩ : ∃ g, wr.heap.size = g := ⟨_, rfl⟩
      rw [hgw] at c0 c1
      have hR := Kept.mk hrow
      unfold nmC at hR
      simp only at c0 c1 hwx hR KLk
      clear hbel hrow hbx hsx hrx hrg hx
      by_cases he : xp = p
      · have hs := str_eqB he
        have KE : Kept (nmF l p = xf) := ⟨KLl.out xf (by rw [KLk.out, if_pos he])⟩
        clear he
        go_wp2_with (first | (refine wpList_load_mid rfl 81 _ rfl b (off + k * 2) rfl _ _ hR.out Tryz.underlying81 rfl infoNm1 ?_) | (refine BigFrame.wpList_want rfl (fun K hK => wp_store_row 81 _ _ rfl wr.heap.size _ rfl rfl 81 _ (heap_alloc_new wr _) infoNm1 rfl rfl (hK _ _ ?_)); rw [World.setRow_alloc_new, hwx]))
        go_ret
        rw [KE.out]
        exact ⟨rfl, KBx.out⟩
      · have hs := str_ne_list he
        have KE : Kept (lk (l.take (k + 1)) p = none) := ⟨by rw [KLk.out, if_neg he]⟩
        clear he
        go_wp2_with (first | (refine wpList_load_mid rfl 81 _ rfl b (off + k * 2) rfl _ _ hR.out Tryz.underlying81 rfl infoNm1 ?_) | (refine BigFrame.wpList_want rfl (fun K hK => wp_store_row 81 _ _ rfl wr.heap.size _ rfl rfl 81 _ (heap_alloc_new wr _) infoNm1 rfl rfl (hK _ _ ?_)); rw [World.setRow_alloc_new, hwx]))
        go_roundw
        case rel => exact ⟨k + 1, by omega, by go_num, KE.out, KBx.out⟩
        case measure => simp [intOf]; omega
    · have hki : ¬ (k : Int) < (l.length : Int) := by omega
      have KE : Kept (nmF l p = 0) := ⟨by
        have := KNo.out
        rw [List.take_of_length_le (by omega)] at this
        unfold nmF
        rw [this]
        rfl⟩
      clear hbel
      go_wp2
      go_ret
      rw [KE.out]
      exact ⟨rfl, KBr.out⟩
/-- A pending change's cells. -/
def pnC (c : PnC) : List Value := [.string c.path, .string c.frm, .int .i64 (c.file : Nat)]
abbrev OwPn (w : World) (base : Nat) (v : Value) (l : List PnC) : Prop := OwK w base 76 3 v (l.map pnC)
abbrev RdPn (G : Nat → Prop) (w : World) (v : Value) (l : List PnC) : Prop := RdK G w 3 v (l.map pnC)
theorem own_names_mono {w' : World} {base b : Nat} {v : Value} {l : NL} (h : OwN w' b v l) (hb : base ≤ b) : OwN w' base v l := ⟨by
  refine ⟨h.1.1, ?_⟩
  rcases h.1.2 with h2 | ⟨g, cap, cur, h2, h3, h4⟩
  · exact .inl h2
  · exact .inr ⟨g, cap, cur, h2, Nat.le_trans hb h3, h4⟩, h.2⟩
set_option maxHeartbeats 1000000 in
set_option maxRecDepth 100000 in
theorem change_any {G : Nat → Prop} (v : Value) (l : NL) (c : PnC) (w : World) (h : RdNm G w v l) (hs : Srt l) (hl : l.length ≤ 90000) :
    Calls Tryz.prog 31 #[v, .agg #[.string c.path, .string c.frm, .int .i64 (c.file : Nat)]] w fun e w' => ∃ v', e = .returned v' ∧ OwN w' w.heap.size v' (chgF l c) ∧ Below w.heap.size w w' := by
  obtain ⟨cp, cf, cn⟩ := c
  simp only
  obtain ⟨w1, hw1⟩ : ∃ w1, w.alloc (.cells #[.string cp, .string cf, .int .i64 (cn : Nat)] 76) = w1 := ⟨_, rfl⟩
  have hb1 : Below w.heap.size w w1 := by rw [← hw1]; exact (Below.refl _ _).alloc (Nat.le_refl _) _
  have c0 : w1.cell? ⟨w.heap.size, 0, none⟩ = some (.string cp) := by rw [← hw1]; exact alloc_cell _ _ _ _ _ (by simp)
  have c1 : w1.cell? ⟨w.heap.size, 1, none⟩ = some (.string cf) := by rw [← hw1]; exact alloc_cell _ _ _ _ _ (by simp)
  have c2 : w1.cell? ⟨w.heap.size, 2, none⟩ = some (.int .i64 (cn : Nat)) := by rw [← hw1]; exact alloc_cell _ _ _ _ _ (by simp)
  have hlt : w.heap.size < w1.heap.size := by rw [← hw1]; simp
  have KB1 := Kept.mk hb1
  have KH1 := Kept.mk (h.later hb1)
  obtain ⟨a0, c0', rfl, -, -⟩ := h.openMap
  have KC : Kept (chgF l ⟨cp, cf, cn⟩ = putF (if cf = ByteArray.empty then l else putF l cf 0) cp cn) := ⟨rfl⟩
  clear h
  by_cases he : cf = ByteArray.empty
  · have K := Kept.mk (put_any _ l cp cn w1 KH1.out (by omega))
    have KE : Kept (chgF l ⟨cp, cf, cn⟩ = putF l cp cn) := ⟨by rw [KC.out, if_pos he]⟩
    have hs1 : cf.toList = [] := by rw [he, Lib.toList_data]; rfl
    clear he KC
    go_enter Tryz.func31, Tryz.ntmps31
    go_wp2_with fail
    refine Calls.mono K.out (fun e w2 hp => ?_)
    obtain ⟨v2, rfl, ho, hb2⟩ := hp
    have KO := Kept.mk ho
    have KB2 : Kept (Below w.heap.size w w2) := ⟨KB1.out.trans (hb2.mono KB1.out.size)⟩
    clear ho hb2 K
    go_wp2
    go_ret
    exact ⟨_, rfl, by rw [KE.out]; exact own_names_mono KO.out KB1.out.size, KB2.out⟩
  · have K := Kept.mk (put_any _ l cf 0 w1 KH1.out (by omega))
    have KE : Kept (chgF l ⟨cp, cf, cn⟩ = putF (putF l cf 0) cp cn) := ⟨by rw [KC.out, if_neg he]⟩
    have hs1 : ¬ cf.toList = [] := fun h => he (ba_ext (by rw [← Lib.toList_data, h]; rfl))
    have hs2 : (cf.toList == []) = false := by simpa using hs1
    have Kl := Kept.mk (put_len l hs cf 0)
    have Kg := Kept.mk hlt
    clear he KC hlt
    go_enter Tryz.func31, Tryz.ntmps31
    go_wp2_with fail
    refine Calls.mono K.out (fun e w2 hp => ?_)
    obtain ⟨v2, rfl, ho, hb2⟩ := hp
    have KO := Kept.mk ho
    have KB2 : Kept (Below w.heap.size w w2) := ⟨KB1.out.trans (hb2.mono KB1.out.size)⟩
    have d0 := cell_of c0 (hb2.block _ Kg.out)
    have d2 := cell_of c2 (hb2.block _ Kg.out)
    have K := Kept.mk (put_any _ _ cp cn w2 ho.rd (by have := Kl.out; omega))
    clear ho hb2
    go_wp2_with fail
    refine Calls.mono K.out (fun e w3 hp => ?_)
    obtain ⟨v3, rfl, ho, hb3⟩ := hp
    have KO3 := Kept.mk ho
    have KB3 : Kept (Below w.heap.size w w3) := ⟨KB2.out.trans (hb3.mono KB2.out.size)⟩
    clear ho hb3 K
    go_wp2
    go_ret
    exact ⟨_, rfl, by rw [KE.out]; exact own_names_mono KO3.out KB2.out.size, KB3.out⟩
set_option maxHeartbeats 1000000 in
set_option maxRecDepth 100000 in
theorem choice_any {S : Nat → Prop} (v : Value) (cs : List Int) (i : Nat) (w : World) (h : Rd .u8 S w v cs) (hA : AllB cs) :
    Calls Tryz.prog 30 #[v, .int .i64 (i : Nat)] w fun e w' => e = .returned (.int .i64 (chs cs i)) ∧ w' = w := by
  rcases Nat.eq_zero_or_pos cs.length with h0 | h0
  · obtain ⟨a, c, rfl, -, -, -⟩ := h.form
    have hcs : cs = [] := List.eq_nil_of_length_eq_zero h0
    subst hcs
    go_enter Tryz.func30, Tryz.ntmps30
    go_wp2
    go_ret
    exact ⟨by rw [chs_nil]; rfl, rfl⟩
  · obtain ⟨b, off, c, rfl, hlt, hlc, hcm, hS, hcell⟩ := h.open h0
    have hm : i % cs.length < cs.length := Nat.mod_lt _ h0
    have hx := hcell _ hm
    have hb := hA (cs.getD (i % cs.length) 0) (by
      simp only [List.getD, List.getElem?_eq_getElem hm, Option.getD_some]
      exact List.getElem_mem hm)
    have KE : Kept (chs cs i = cs.getD (i % cs.length) 0) := ⟨by unfold chs Proofs.YtegdadkejheagaaGreatDoor.atF; rw [if_neg (by omega)]⟩
    have n0 : ¬ (cs.length : Int) = 0 := by omega
    have hr : (i : Int).tmod (cs.length : Int) = ((i % cs.length : Nat) : Int) := rfl
    obtain ⟨m, hme⟩ : ∃ m, i % cs.length = m := ⟨_, rfl⟩
    rw [hme] at hr hx hm hb KE
    obtain ⟨y, hy⟩ : ∃ y, cs.getD m 0 = y := ⟨_, rfl⟩
    rw [hy] at hx hb KE
    clear hcell
    have hmi : (m : Int) < (cs.length : Int) := by omega
    have hlm : cs.length ≤ maxLen := Nat.le_trans hlc hcm
    have e1 : IntKind.i64.wrap (m : Int) = (m : Int) := wr64 (by omega) (by unfold maxLen at hlm; omega)
    have e2 : IntKind.i64.wrap y = y := wr64 (by omega) (by omega)
    go_enter Tryz.func30, Tryz.ntmps30
    go_wp2
    go_ret
    exact ⟨by rw [KE.out]; rfl, rfl⟩

open Go.RowKit Go.WideMaps Go.Maps

/-- A file in memory, the document's way. -/
structure CtM where
  v : Value
  xs : List Int
  s : Nat
def ctC (m : CtM) : List Value := [m.v, .int .i64 (m.s : Nat)]
def RdCt (G : Nat → Prop) (w : World) (v : Value) (fs : List (List Int × Nat)) : Prop := ∃ ms : List CtM, (ms.map fun m => (m.xs, m.s)) = fs ∧ RdK G w 2 v (ms.map ctC) ∧ ∀ m ∈ ms, Rd .u8 G w m.v m.xs ∧ AllB m.xs
/-- The values of a disk's lists. -/
structure DVs where
  n : Value
  l : Value
  p : Value
  f : Value
def ddC (D : DD) (V : DVs) : List Value := [V.n, V.l, V.p, V.f, .int .i64 D.quota, .slice none 0 0, .int .i64 D.offAt, .int .i64 D.count, .bool D.off]
/-- The document's disk in memory. -/
structure DM (G : Nat → Prop) (w : World) (D : DD) (V : DVs) : Prop where
  n : RdNm G w V.n D.names
  l : RdNm G w V.l D.lasting
  p : RdPn G w V.p D.pend
  f : RdCt G w V.f D.files
theorem RdCt.later {G : Nat → Prop} {w w' : World} {v : Value} {fs : List (List Int × Nat)} (h : RdCt G w v fs) (hb : Below w.heap.size w w') : RdCt G w' v fs := by
  obtain ⟨ms, h1, h2, h3⟩ := h
  exact ⟨ms, h1, h2.later hb, fun m hm => ⟨(h3 m hm).1.later hb (Nat.le_refl _), (h3 m hm).2⟩⟩
theorem DM.later {G : Nat → Prop} {w w' : World} {D : DD} {V : DVs} (h : DM G w D V) (hb : Below w.heap.size w w') : DM G w' D V := ⟨h.n.later hb, h.l.later hb, h.p.later hb, h.f.later hb⟩
/-- A disk's block. -/
theorem dd_box (w : World) (D : DD) (V : DVs) : ∃ wx, w.alloc (.cells #[V.n, V.l, V.p, V.f, .int .i64 D.quota, .slice none 0 0, .int .i64 D.offAt, .int .i64 D.count, .bool D.off] 36) = wx ∧ Below w.heap.size w wx ∧ w.heap.size < wx.heap.size ∧ (∀ j u, (ddC D V)[j]? = some u → wx.cell? ⟨w.heap.size, j, none⟩ = some u) :=
  ⟨_, rfl, (Below.refl _ _).alloc (Nat.le_refl _) _, by simp, fun j u hu => alloc_cell _ _ _ _ _ (by simpa [ddC] using hu)⟩
set_option maxHeartbeats 1000000 in
set_option maxRecDepth 100000 in
theorem refused_any (D : DD) (V : DVs) (w : World) : Calls Tryz.prog 45 #[.agg #[V.n, V.l, V.p, V.f, .int .i64 D.quota, .slice none 0 0, .int .i64 D.offAt, .int .i64 D.count, .bool D.off]] w fun e w' => e = .returned (.bool false) ∧ Below w.heap.size w w' := by
  obtain ⟨wx, hwx, hbx, hsx, hc⟩ := dd_box w D V
  have c5 := hc 5 _ rfl
  have KB := Kept.mk hbx
  clear hbx hc
  go_enter Tryz.func45, Tryz.ntmps45
  go_wp2
  go_loopw [8] (fun kv wr => kv = .int .i64 0 ∧ wr = wx) (fun _ _ => 0)
  case atStart => exact ⟨rfl, rfl⟩
  case round =>
    obtain ⟨rfl, rfl⟩ := hrel
    go_wp2
    go_ret
    exact ⟨rfl, KB.out⟩
theorem sumF_take (fs : List (List Int × Nat)) {l : NL} {k : Nat} (h : k < l.length) : sumF fs (l.take (k + 1)) = sumF fs (l.take k) + lenF fs (l[k]'h).2 := by
  unfold sumF
  rw [List.take_add_one, List.getElem?_eq_getElem h, List.map_append, List.sum_append]
  simp
theorem sumF_le {fs : List (List Int × Nat)} (hf : ∀ x ∈ fs, x.1.length ≤ 2097152) : ∀ l : NL, 0 ≤ sumF fs l ∧ sumF fs l ≤ 2097152 * (l.length : Int)
  | [] => by simp [sumF]
  | x :: l => by
    have h1 := sumF_le hf l
    rw [sumF_cons]
    have h2 : lenF fs x.2 ≤ 2097152 := by
      unfold lenF ctF
      simp only [List.getD]
      cases hx : fs[x.2 - 1]? with
      | none => simp
      | some y =>
        have := hf y (List.mem_of_getElem? hx)
        simp
        omega
    have h3 : 0 ≤ lenF fs x.2 := by unfold lenF; omega
    rw [List.length_cons]
    push_cast
    omega
set_option maxHeartbeats 2000000 in
set_option maxRecDepth 100000 in
theorem used_any {G : Nat → Prop} (D : DD) (V : DVs) (w : World) (h : DM G w D V) (hl : D.names.length ≤ 100000) (hr : ∀ x ∈ D.names, 1 ≤ x.2 ∧ x.2 ≤ D.files.length) (hf : ∀ x ∈ D.files, x.1.length ≤ 2097152) (hfl : D.files.length ≤ 100000) :
    Calls Tryz.prog 46 #[.agg #[V.n, V.l, V.p, V.f, .int .i64 D.quota, .slice none 0 0, .int .i64 D.offAt, .int .i64 D.count, .bool D.off]] w fun e w' => e = .returned (.int .i64 (usedF D)) ∧ Below w.heap.size w w' := by
  obtain ⟨wx, hwx, hbx, hsx, hc⟩ := dd_box w D V
  have c0 := hc 0 _ rfl
  have c3 := hc 3 _ rfl
  obtain ⟨ms, hms, hfv, hdat⟩ := h.f
  obtain ⟨na, nc, hnv, hnl, hnrd⟩ := h.n.openMap
  obtain ⟨fa, fc, hfv2, hfl2, hfrd⟩ := hfv.openMap
  have hml : ms.length = D.files.length := by rw [← hms, List.length_map]
  have Kml := Kept.mk hml
  have KB := Kept.mk hbx
  have KN := Kept.mk hnrd
  have KF := Kept.mk hfrd
  have KD := Kept.mk hdat
  have KU : Kept (usedF D = sumF D.files D.names) := ⟨rfl⟩
  have KSt := Kept.mk (fun k (hk : k < D.names.length) => sumF_take D.files hk)
  have KSl := Kept.mk (fun k => sumF_le hf (D.names.take k))
  have KC : Kept (∀ f (hf : f < ms.length), ctF D.files (f + 1) = ((ms[f]'hf).xs, (ms[f]'hf).s)) := ⟨fun f hf => by
    unfold ctF
    rw [← hms]
    simp [List.getD, List.getElem?_eq_getElem hf]⟩
  have Kr := Kept.mk hr
  obtain ⟨gd, hgd⟩ : ∃ gd, w.heap.size = gd := ⟨_, rfl⟩
  rw [hnv] at c0 hwx ⊢
  rw [hfv2] at c3 hwx ⊢
  rw [hgd] at c0 c3
  have Kgd : Kept (gd < wx.heap.size ∧ w.heap.size = gd) := ⟨by omega, hgd⟩
  have Kc3 : Kept (∀ W, Below wx.heap.size wx W → W.cell? ⟨gd, 3, none⟩ = some (.slice fa ms.length fc)) := ⟨fun W hW => by rw [hW.cell (p := ⟨gd, 3, none⟩) Kgd.out.1]; exact c3⟩
  clear hbx hc h hfv hdat hnrd hfrd hr hf hsx hms c3 hml
  go_enter Tryz.func46, Tryz.ntmps46
  go_wp2
  go_loopw [3, 9] (fun sv kv wr => ∃ k : Nat, k ≤ D.names.length ∧ kv = .int .i64 k ∧ sv = .int .i64 (sumF D.files (D.names.take k)) ∧ Below wx.heap.size wx wr) (fun _ kv _ => D.names.length - (intOf kv).toNat)
  case atStart => exact ⟨0, Nat.zero_le _, rfl, rfl, Below.refl _ _⟩
  case round =>
    obtain ⟨k, hk, rfl, rfl, hbel⟩ := hrel
    have KBr := Kept.mk hbel
    have KBw : Kept (Below w.heap.size w wr) := ⟨KB.out.trans (hbel.mono KB.out.size)⟩
    by_cases hlt : k < D.names.length
    · have hki : (k : Int) < (D.names.length : Int) := by omega
      obtain ⟨b, off, hna, hbl, -, hrg⟩ := KN.out (by omega)
      have hst := KSt.out k hlt
      have hsl := KSl.out k
      have hsl2 := KSl.out (k + 1)
      rw [hst] at hsl2
      rw [List.length_take] at hsl hsl2
      have hrr := Kr.out _ (List.getElem_mem hlt)
      obtain ⟨x, hx⟩ : ∃ x, D.names[k]'hlt = x := ⟨_, rfl⟩
      have hrow : wr.rangeAt b (off + k * 2) (nmC x) := fun j u hu => by
        rw [KBw.out.cell (p := ⟨b, off + k * 2 + j, none⟩) hbl]
        have h2 := hrg k hlt j u
        rw [hx] at h2
        exact h2 hu
      rw [hx] at hst hsl2 hrr
      obtain ⟨xp, xf⟩ := x
      simp only at hrr hst hsl2
      obtain ⟨f, rfl⟩ : ∃ f, xf = f + 1 := ⟨xf - 1, by omega⟩
      have hfm : f < ms.length := by have := Kml.out; omega
      obtain ⟨b2, off2, hfa, hbl2, -, hrg2⟩ := KF.out (by omega)
      obtain ⟨m, hm⟩ : ∃ m, ms[f]'hfm = m := ⟨_, rfl⟩
      have hmd := (KD.out _ (List.getElem_mem hfm)).1
      have hct := KC.out f hfm
      rw [hm] at hmd hct
      obtain ⟨va, vc, hmv, -, -, -⟩ := hmd.form
      have hcell : w.cell? ⟨b2, off2 + f * 2, none⟩ = some m.v := by
        have := hrg2 f hfm 0 m.v (by rw [hm]; rfl)
        rwa [Nat.add_zero] at this
      have hlen : lenF D.files (f + 1) = (m.xs.length : Int) := by unfold lenF; rw [hct]
      rw [hlen] at hst hsl2
      rw [hmv] at hcell
      subst hna hfa
      obtain ⟨wy, hwy, hby, hsy, d0, d1, hry⟩ := nm_box wr (xp, f + 1)
      have KBy : Kept (Below wx.heap.size wx wy) := ⟨hbel.trans (hby.mono hbel.size)⟩
      have KByw : Kept (Below w.heap.size w wy) := ⟨KB.out.trans (KBy.out.mono KB.out.size)⟩
      have d3 := Kc3.out wy KBy.out
      have dF : wy.cell? ⟨b2, off2 + f * 2, none⟩ = some (.slice va m.xs.length vc) := by rw [KByw.out.cell (p := ⟨b2, off2 + f * 2, none⟩) hbl2]; exact hcell
      obtain ⟨g, hgw⟩ : ∃ g, wr.heap.size = g := ⟨_, rfl⟩
      rw [hgw] at d0 d1
      have hR := Kept.mk hrow
      unfold nmC at hR
      simp only at d0 d1 hwy hR
      have hfi : (f : Int) < (ms.length : Int) := by omega
      have ef : ((f + 1 : Nat) : Int) - 1 = (f : Int) := by omega
      have e1 : IntKind.i64.wrap (((f + 1 : Nat) : Int) - 1) = (f : Int) := by rw [ef]; exact wr64 (by omega) (by omega)
      obtain ⟨S, hS⟩ : ∃ S, sumF D.files (D.names.take k) = S := ⟨_, rfl⟩
      rw [hS] at hst hsl hsl2 ⊢
      have Kst := Kept.mk hst
      have e2 : IntKind.i64.wrap (S + (m.xs.length : Int)) = S + (m.xs.length : Int) := wr64 (by omega) (by omega)
      have e3 : IntKind.i64.wrap ((k : Int) + 1) = (k : Int) + 1 := wr64 (by omega) (by omega)
      generalize ((f + 1 : Nat) : Int) = f1 at *
      clear hbel hrow hby hsy hry hrg hrg2 hx hm hst hsl hsl2 hct hcell hlen hS hmd hrr ef
      go_wp2_with (first | (refine wpList_load_mid rfl 81 _ rfl b (off + k * 2) rfl _ _ hR.out Tryz.underlying81 rfl infoNm1 ?_) | (refine BigFrame.wpList_want rfl (fun K hK => wp_store_row 81 _ _ rfl wr.heap.size _ rfl rfl 81 _ (heap_alloc_new wr _) infoNm1 rfl rfl (hK _ _ ?_)); rw [World.setRow_alloc_new, hwy]))
      go_roundw
      case rel => exact ⟨k + 1, by omega, by go_num, by rw [Kst.out], KBy.out⟩
      case measure => simp [intOf]; omega
    · have hki : ¬ (k : Int) < (D.names.length : Int) := by omega
      have KE : Kept (sumF D.files (D.names.take k) = usedF D) := ⟨by rw [List.take_of_length_le (by omega)]; exact KU.out.symm⟩
      clear hbel
      rw [KE.out]
      go_wp2
      go_ret
      exact ⟨rfl, by have := KBw.out; rwa [hgd] at this⟩

open Go.RowKit Go.WideMaps Go.Maps

theorem flat_len {k : Nat} : ∀ {rows : List (List Value)}, (∀ r ∈ rows, r.length = k) → rows.flatten.length = rows.length * k
  | [], _ => by simp
  | r :: rows, h => by
    rw [List.flatten_cons, List.length_append, h r (by simp), flat_len (fun x hx => h x (by simp [hx])), List.length_cons, Nat.succ_mul]
    omega
section
variable {o : Oper} {a : Act} {w : World} {K : Act → World → Prop} {Q : Exit → Act → World → Prop}
/-- append of a whole list that is read. -/
theorem wp_append_KK (s x : Operand) (ts t : TypeId) (ho : o.op = .call { callee := .builtin .append, args := #[s, x], argTypes := #[ts, ts] })
    (k bytes : Nat) (i : TypeInfo) (z : Value) (hu : Tryz.prog.underlying ts = some (.slice t)) (hi : Tryz.prog.info? t = some i) (hz : i.zero = some z) (hs : i.size = k) (hb0 : i.bytes = bytes) (hc : z.cells.size = k) (hb1 : 0 < k) (hb2 : bytes ≤ 1000)
    (base : Nat) (v : Value) (l : List (List Value)) (hsv : a.eval s = v) (hown : OwK w base t k v l) {G : Nat → Prop} (xv : Value) (m : List (List Value)) (hx : a.eval x = xv) (hr : RdK G w k xv m) (hml : ∀ r ∈ m, r.length = k) (h1 : ∀ r ∈ m, ∀ u ∈ r, u.oneCell' = true) (hl : l.length + m.length ≤ 1000000) (hb : base ≤ w.heap.size)
    (h : ∀ v' w', OwK w' base t k v' (l ++ m) → w.grownBy w' v.ownBlock → K (a.put o.dst v') w') : o.wp Tryz.prog a w K Q := by
  obtain ⟨xa, c, rfl, hlc, hrd⟩ := hr
  have hall : ∀ r ∈ l ++ m, r.length = k := fun r hr => (List.mem_append.1 hr).elim (hown.2 r) (hml r)
  have hm : (l.length + m.length) * bytes ≤ 1000000 * 1000 := Nat.mul_le_mul hl hb2
  have key : ∃ v' w', (Builtin.append_ #[ts, ts] o.type #[v, .slice xa m.length c]).run Tryz.prog w = .ok v' w' ∧ OwK w' base t k v' (l ++ m) ∧ w.grownBy w' v.ownBlock := by
    by_cases h0 : 0 < m.length
    · obtain ⟨b, off, rfl, hlt, hG, hcell⟩ := hrd h0
      obtain ⟨v', w', g1, g2, g3, -, -⟩ := run_append_own_at (P := Tryz.prog) w base ts o.type t i z k bytes hu hi hz hs hb0 hc hb1 v _ _ hown.1 ⟨b, off, none⟩ m.length c m.flatten (flat_len hml)
        (fun j u hj => by
          have hj' : j < m.length * k := by
            rw [← flat_len hml]
            exact (List.getElem?_eq_some_iff.1 hj).1
          have hq : j / k < m.length := by
            rw [Nat.div_lt_iff_lt_mul hb1]
            exact hj'
          have hmod : j % k < k := Nat.mod_lt _ hb1
          have hd : j / k * k + j % k = j := by rw [Nat.mul_comm]; exact Nat.div_add_mod j k
          have hg := flat_get hml (j / k) hq (j % k) hmod
          rw [hd, hj] at hg
          have := hcell (j / k) hq (j % k) u hg.symm
          rw [add_plain]
          rw [show off + j = off + j / k * k + j % k from by omega]
          exact this) (fun u hu => by
          obtain ⟨r, hr1, hr2⟩ := List.mem_flatten.1 hu
          exact h1 r hr1 u hr2) (by unfold maxLen; omega) (by omega) hb
      refine ⟨v', w', g1, ⟨?_, hall⟩, g3⟩
      rw [List.flatten_append, List.length_append]
      exact g2
    · have hx0 : m = [] := List.eq_nil_of_length_eq_zero (by omega)
      subst hx0
      simp only [List.append_nil, List.length_nil]
      rcases hown.1.2 with ⟨rfl, hn⟩ | ⟨g, cap, cur, rfl, hbg, hg, hnc, hcm, hcs, htake⟩
      · exact ⟨_, w, run_append_zero w ts o.type t i hu hi none 0 0 (Nat.le_refl _) xa c, hown, ⟨rfl, rfl, rfl, Nat.le_refl _, fun _ _ _ => rfl⟩⟩
      · exact ⟨_, w, run_append_zero w ts o.type t i hu hi _ _ cap hnc xa c, hown, ⟨rfl, rfl, rfl, Nat.le_refl _, fun _ _ _ => rfl⟩⟩
  obtain ⟨v', w', hrun, h2, h3⟩ := key
  unfold Oper.wp execOp
  simp only [ho, resolve, invoke, builtin, Sem.run_bind, Sem.run_pure, Result.andThen_ok, List.map_toArray, List.map_cons, List.map_nil, hsv, hx, hrun]
  exact h v' w' h2 h3
end
set_option maxRecDepth 100000 in
theorem infoCt : ∃ i z, Tryz.prog.info? 83 = some i ∧ i.zero = some z ∧ i.size = 2 ∧ i.bytes = 32 ∧ z.cells.size = 2 := ⟨_, _, rfl, rfl, rfl, rfl, rfl⟩
set_option maxRecDepth 100000 in
theorem infoPn : ∃ i z, Tryz.prog.info? 76 = some i ∧ i.zero = some z ∧ i.size = 3 ∧ i.bytes = 40 ∧ z.cells.size = 3 := ⟨_, _, rfl, rfl, rfl, rfl, rfl⟩
theorem ctC_len (ms : List CtM) : ∀ r ∈ ms.map ctC, r.length = 2 := by
  intro r hr
  obtain ⟨m, -, rfl⟩ := List.mem_map.1 hr
  rfl
theorem ctC_ones {G : Nat → Prop} {w : World} {ms : List CtM} (h : ∀ m ∈ ms, Rd .u8 G w m.v m.xs) : ∀ r ∈ ms.map ctC, ∀ u ∈ r, u.oneCell' = true := by
  intro r hr u hu
  obtain ⟨m, hm, rfl⟩ := List.mem_map.1 hr
  unfold ctC at hu
  simp only [List.mem_cons, List.not_mem_nil, or_false] at hu
  rcases hu with rfl | rfl
  · obtain ⟨a, c, hv, -, -, -⟩ := (h m hm).form
    rw [hv]
    rfl
  · rfl
theorem pnC_len (ms : List PnC) : ∀ r ∈ ms.map pnC, r.length = 3 := by
  intro r hr
  obtain ⟨m, -, rfl⟩ := List.mem_map.1 hr
  rfl
theorem pnC_ones (ms : List PnC) : ∀ r ∈ ms.map pnC, ∀ u ∈ r, u.oneCell' = true := by
  intro r hr u hu
  obtain ⟨m, -, rfl⟩ := List.mem_map.1 hr
  unfold pnC at hu
  simp only [List.mem_cons, List.not_mem_nil, or_false] at hu
  rcases hu with rfl | rfl | rfl <;> rfl
set_option maxHeartbeats 1000000 in
set_option maxRecDepth 100000 in
theorem contents_any {G : Nat → Prop} (v : Value) (ms : List CtM) (w : World) (h : RdK G w 2 v (ms.map ctC)) (hd : ∀ m ∈ ms, Rd .u8 G w m.v m.xs) (hl : ms.length ≤ 100000) :
    Calls Tryz.prog 47 #[v] w fun e w' => ∃ v', e = .returned v' ∧ OwK w' w.heap.size 83 2 v' (ms.map ctC) ∧ Below w.heap.size w w' := by
  obtain ⟨i0, z0, hi, hz, hs, hb, hc⟩ := infoCt
  have KH := Kept.mk h
  have K1 := Kept.mk (ctC_ones hd)
  have KO := Kept.mk (OwK.nil w w.heap.size 83 2)
  have KB := Kept.mk (Below.refl w.heap.size w)
  have hlm : ([] : List (List Value)).length + (ms.map ctC).length ≤ 1000000 := by simp; omega
  clear h hd
  go_enter Tryz.func47, Tryz.ntmps47
  go_wp2_with (at_builtin; go_loud (refine wpList_plain rfl (fun K hK => wp_append_KK _ _ 33 83 rfl 2 32 i0 z0 Tryz.underlying33 hi hz hs hb hc (by decide) (by decide) w.heap.size _ [] rfl KO.out _ (ms.map ctC) rfl KH.out (ctC_len ms) K1.out hlm (Nat.le_refl _) (fun v2 w2 o2 g2 => hK _ _ ?_)); have KB2 := Kept.mk (KB.out.grown g2 (Nat.le_refl _) (by intro k hk; cases hk)); have KO2 := Kept.mk o2; clear o2 g2))
  go_ret
  exact ⟨v2, rfl, by simpa using KO2.out, KB2.out⟩

open Go.RowKit Go.WideMaps Go.Maps

/-- A pending change's block. -/
theorem pn_box (w : World) (a b : ByteArray) (f : Nat) : ∃ wx, w.alloc (.cells #[.string a, .string b, .int .i64 (f : Nat)] 76) = wx ∧ Below w.heap.size w wx ∧ w.heap.size < wx.heap.size ∧ wx.cell? ⟨w.heap.size, 0, none⟩ = some (.string a) ∧ wx.cell? ⟨w.heap.size, 1, none⟩ = some (.string b) ∧ wx.cell? ⟨w.heap.size, 2, none⟩ = some (.int .i64 (f : Nat)) :=
  ⟨_, rfl, (Below.refl _ _).alloc (Nat.le_refl _) _, by simp, alloc_cell _ _ _ _ _ (by simp), alloc_cell _ _ _ _ _ (by simp), alloc_cell _ _ _ _ _ (by simp)⟩
theorem infoPn1 : (Tryz.prog.info? 76).map (·.size) = some 3 := by kernel_rfl
set_option maxRecDepth 100000 in
theorem infoSt : ∃ i z, Tryz.prog.info? 9 = some i ∧ i.zero = some z ∧ i.size = 1 ∧ i.bytes = 16 ∧ z.cells.size = 1 := ⟨_, _, rfl, rfl, rfl, rfl, rfl⟩
theorem run_add_str (a b : ByteArray) (h : a.size + b.size ≤ 9223372036854775807) (W : World) : (Op.stringOp .add a b).run Tryz.prog W = .ok (.string (a ++ b)) W := run_string_add_sum (P := Tryz.prog) W _ _ (by omega)
theorem ow_mono {w' : World} {base b : Nat} {t : TypeId} {k : Nat} {v : Value} {l : List (List Value)} (h : OwK w' b t k v l) (hb : base ≤ b) : OwK w' base t k v l := ⟨by
  refine ⟨h.1.1, ?_⟩
  rcases h.1.2 with h2 | ⟨g, cap, cur, h2, h3, h4⟩
  · exact .inl h2
  · exact .inr ⟨g, cap, cur, h2, Nat.le_trans hb h3, h4⟩, h.2⟩
def stC (q : ByteArray) : List Value := [.string q]
theorem allF_len : ∀ (P : List PnC) {l : NL}, Srt l → (allF P l).length ≤ l.length + P.length
  | [], _, _ => Nat.le_refl _
  | c :: P, l, h => by
    have h1 := allF_len P (srt_put h (slF (folF c.path)) 1)
    have h2 := put_len l h (slF (folF c.path)) 1
    show (allF P (putF l (slF (folF c.path)) 1)).length ≤ _
    rw [List.length_cons]
    omega
theorem allF_snoc (P : List PnC) (c : PnC) : allF (P ++ [c]) [] = putF (allF P []) (slF (folF c.path)) 1 := by
  unfold allF
  rw [List.foldl_append]
  rfl
set_option maxHeartbeats 4000000 in
set_option maxRecDepth 100000 in
theorem folders_any {G : Nat → Prop} (v : Value) (P : List PnC) (w : World) (h : RdPn G w v P) (hl : P.length ≤ 1000) (hp : ∀ c ∈ P, c.path.size ≤ 200) :
    Calls Tryz.prog 28 #[v] w fun e w' => ∃ v', e = .returned v' ∧ OwK w' w.heap.size 9 1 v' ((foldersF P).map stC) ∧ Below w.heap.size w w' := by
  obtain ⟨i0, z0, hi, hz, hs, hb, hc⟩ := infoSt
  obtain ⟨a, c, rfl, hlc, hrd⟩ := h.openMap
  clear h
  have KR := Kept.mk hrd
  have KPs := Kept.mk hp
  have Klen : Kept (∀ k, (allF (P.take k) []).length ≤ 1000) := ⟨fun k => by
    have := allF_len (P.take k) (l := []) List.Pairwise.nil
    rw [List.length_take] at this
    simp only [List.length_nil] at this
    omega⟩
  clear hrd hp
  go_enter Tryz.func28, Tryz.ntmps28
  go_wp2
  go_loopw [3, 11] (fun av kv wr => ∃ k : Nat, k ≤ P.length ∧ kv = .int .i64 k ∧ OwN wr w.heap.size av (allF (P.take k) []) ∧ Below w.heap.size w wr) (fun _ kv _ => P.length - (intOf kv).toNat)
  case atStart => exact ⟨0, Nat.zero_le _, rfl, OwK.nil _ _ _ _, Below.refl _ _⟩
  case round =>
    obtain ⟨k, hk, rfl, how, hbel⟩ := hrel
    have KBr := Kept.mk hbel
    have KO := Kept.mk how
    obtain ⟨ma, mc, rfl⟩ := how.form
    rw [List.length_map] at KO ⊢
    clear how
    by_cases hlt : k < P.length
    · have hki : (k : Int) < (P.length : Int) := by omega
      obtain ⟨b, off, rfl, hbl, -, hrg⟩ := KR.out (by omega)
      obtain ⟨x, hx⟩ : ∃ x, P[k]'hlt = x := ⟨_, rfl⟩
      have hrow : wr.rangeAt b (off + k * 3) (pnC x) := fun j u hu => by
        rw [hbel.cell (p := ⟨b, off + k * 3 + j, none⟩) hbl]
        have h2 := hrg k hlt j u
        rw [hx] at h2
        exact h2 hu
      have hxs := KPs.out _ (List.getElem_mem hlt)
      rw [hx] at hxs
      have KFs : Kept (allF (P.take (k + 1)) [] = putF (allF (P.take k) []) (slF (folF x.path)) 1) := ⟨by rw [List.take_add_one, List.getElem?_eq_getElem hlt, hx]; exact allF_snoc _ _⟩
      have e2 : IntKind.i64.wrap ((k : Int) + 1) = (k : Int) + 1 := wr64 (by omega) (by omega)
      have hml := Klen.out k
      obtain ⟨m, hm⟩ : ∃ m, allF (P.take k) [] = m := ⟨_, rfl⟩
      rw [hm] at KO KFs hml ⊢
      obtain ⟨xp, xq, xf⟩ := x
      simp only at hxs
      obtain ⟨wx, hwx, hbx, hsx, c0, c1, c2⟩ := pn_box wr xp xq xf
      have KBx : Kept (Below w.heap.size w wx) := ⟨hbel.trans (hbx.mono hbel.size)⟩
      have KOx := Kept.mk (KO.out.later hbx)
      obtain ⟨g, hgw⟩ : ∃ g, wr.heap.size = g := ⟨_, rfl⟩
      rw [hgw] at c0
      have hR := Kept.mk hrow
      unfold pnC at hR
      simp only at hR KFs
      have KFo := Kept.mk (folder_any xp wx (by omega))
      have hfs := folF_le hxs
      have hsum := run_add_str ⟨#[47]⟩ (folF xp) (by show 1 + _ ≤ _; omega)
      clear hbel hrow hbx hsx hrg hx hm c1 c2 hxs hfs
      go_wp2_with (first | (refine wpList_load_mid rfl 76 _ rfl b (off + k * 3) rfl _ _ hR.out Tryz.underlying76 rfl infoPn1 ?_) | (refine BigFrame.wpList_want rfl (fun K hK => wp_store_row 76 _ _ rfl wr.heap.size _ rfl rfl 76 _ (heap_alloc_new wr _) infoPn1 rfl rfl (hK _ _ ?_)); rw [World.setRow_alloc_new, hwx]))
      refine Calls.mono KFo.out (fun e wy hp => ?_)
      obtain ⟨rfl, hby⟩ := hp
      have KBy : Kept (Below w.heap.size w wy) := ⟨KBx.out.trans (hby.mono KBx.out.size)⟩
      have KP := Kept.mk (put_any _ m (slF (folF xp)) 1 wy (KOx.out.later hby).rd (by omega))
      clear hby KFo
      go_wp2_with fail
      refine Calls.mono KP.out (fun e wz hp => ?_)
      obtain ⟨v2, rfl, ho2, hb2⟩ := hp
      have KO2 : Kept (OwN wz w.heap.size v2 (putF m (slF (folF xp)) 1)) := ⟨own_names_mono ho2 KBy.out.size⟩
      have KB2 : Kept (Below w.heap.size w wz) := ⟨KBy.out.trans (hb2.mono KBy.out.size)⟩
      clear ho2 hb2 KP hsum
      go_wp2
      go_roundw
      case rel => exact ⟨k + 1, by omega, by go_num, by rw [KFs.out]; exact KO2.out, KB2.out⟩
      case measure => simp [intOf]; omega
    · have hki : ¬ (k : Int) < (P.length : Int) := by omega
      have hml := Klen.out k
      have hkey : ∀ x ∈ allF (P.take k) [], (1 : Int) ≤ (x.1.size : Int) := fun x hx => by
        obtain ⟨c', -, h1⟩ := allF_key hx
        rw [h1, slF_size]
        omega
      have KFo : Kept (foldersF P = (allF (P.take k) []).map fun x => x.1.extract 1 x.1.size) := ⟨by rw [List.take_of_length_le (by omega)]; rfl⟩
      obtain ⟨m, hm⟩ : ∃ m, allF (P.take k) [] = m := ⟨_, rfl⟩
      rw [hm] at KO KFo hml hkey ⊢
      obtain ⟨a2, c2, hmv, hlc2, hrd2⟩ := KO.out.rd.openMap
      injection hmv with hm1 _ hm3
      subst hm1 hm3
      have KM := Kept.mk hrd2
      have Kkey := Kept.mk hkey
      have Kwl := Kept.mk hbel.size
      obtain ⟨W0, hW0⟩ : ∃ W0, W0 = wr := ⟨wr, rfl⟩
      subst hW0
      clear hbel hm hrd2 hkey
      go_wp2
      go_loopw [6, 24] (fun sv kv wr => ∃ j : Nat, j ≤ m.length ∧ kv = .int .i64 j ∧ OwK wr W0.heap.size 9 1 sv ((m.take j).map fun x => stC (x.1.extract 1 x.1.size)) ∧ Below W0.heap.size W0 wr) (fun _ kv _ => m.length - (intOf kv).toNat)
      case atStart => exact ⟨0, Nat.zero_le _, rfl, OwK.nil _ _ _ _, Below.refl _ _⟩
      case round =>
        obtain ⟨j, hj, rfl, how, hbel⟩ := hrel
        have KBq := Kept.mk hbel
        have KS := Kept.mk how
        obtain ⟨sa, sc, rfl⟩ := how.form
        rw [List.length_map, List.length_take, Nat.min_eq_left hj] at KS ⊢
        clear how
        by_cases hlt : j < m.length
        · have hji : (j : Int) < (m.length : Int) := by omega
          obtain ⟨b, off, hab, hbl, -, hrg⟩ := KM.out (by omega)
          obtain ⟨x, hx⟩ : ∃ x, m[j]'hlt = x := ⟨_, rfl⟩
          have hrow : wr.rangeAt b (off + j * 2) (nmC x) := fun i u hu => by
            rw [hbel.cell (p := ⟨b, off + j * 2 + i, none⟩) hbl]
            have h2 := hrg j hlt i u
            rw [hx] at h2
            exact h2 hu
          have hx1 := Kkey.out _ (List.getElem_mem hlt)
          rw [hx] at hx1
          have KSs : Kept ((m.take (j + 1)).map (fun x => stC (x.1.extract 1 x.1.size)) = (m.take j).map (fun x => stC (x.1.extract 1 x.1.size)) ++ [stC (x.1.extract 1 x.1.size)]) := ⟨by rw [List.take_add_one, List.getElem?_eq_getElem hlt, List.map_append, hx]; rfl⟩
          have e2 : IntKind.i64.wrap ((j : Int) + 1) = (j : Int) + 1 := wr64 (by omega) (by omega)
          have hlj : ((m.take j).map fun x => stC (x.1.extract 1 x.1.size)).length ≤ 1000000 := by rw [List.length_map, List.length_take]; omega
          obtain ⟨SL, hSL⟩ : ∃ SL, (m.take j).map (fun x => stC (x.1.extract 1 x.1.size)) = SL := ⟨_, rfl⟩
          rw [hSL] at KS KSs hlj
          obtain ⟨xp, xf⟩ := x
          simp only at hx1 KSs
          obtain ⟨wx, hwx, hbx, hsx, c0, c1, hrx⟩ := nm_box wr (xp, xf)
          simp only at hwx c0
          obtain ⟨y, hy⟩ : ∃ y, xp.extract 1 xp.size = y := ⟨_, rfl⟩
          obtain ⟨wy, hwy, hby, hyr⟩ : ∃ wy, wx.alloc (.cells #[.string y] 9) = wy ∧ Below wx.heap.size wx wy ∧ wy.rangeAt wx.heap.size 0 (stC y) := ⟨_, rfl, (Below.refl _ _).alloc (Nat.le_refl _) _, fun i u hu => by rw [Nat.zero_add]; exact alloc_cell _ _ _ _ _ (by simpa [stC] using hu)⟩
          have KBx : Kept (Below W0.heap.size W0 wx) := ⟨hbel.trans (hbx.mono hbel.size)⟩
          have KBy : Kept (Below W0.heap.size W0 wy) := ⟨KBx.out.trans (hby.mono KBx.out.size)⟩
          have KSy := Kept.mk ((KS.out.later hbx).later hby)
          have KRy := Kept.mk hyr
          obtain ⟨g, hgw⟩ : ∃ g, wr.heap.size = g := ⟨_, rfl⟩
          rw [hgw] at c0
          have hR := Kept.mk hrow
          unfold nmC at hR
          simp only at hR
          have hcut : ∀ W : World, (Instr.sliceAt 9 (.string xp) (some (.int .i64 1)) none none).run Tryz.prog W = .ok (.string y) W := fun W => by
            rw [← hy]
            have h1 : (1 : Int) ≤ (xp.size : Int) := hx1
            go_simp
          rw [hy] at KSs
          subst hab
          clear hbel hrow hbx hsx hrg hx c1 hrx hby hyr hx1 hSL hy
          go_wp2_with (first | (refine wpList_load_mid rfl 81 _ rfl b (off + j * 2) rfl _ _ hR.out Tryz.underlying81 rfl infoNm1 ?_) | (refine BigFrame.wpList_want rfl (fun K hK => wp_store_row 81 _ _ rfl wr.heap.size _ rfl rfl 81 _ (heap_alloc_new wr _) infoNm1 rfl rfl (hK _ _ ?_)); rw [World.setRow_alloc_new, hwx]) | (at_builtin; go_loud (refine wpList_plain rfl (fun K hK => wp_append_K _ _ 68 9 rfl 1 16 i0 z0 Tryz.underlying68 hi hz hs hb hc (by decide) (by decide) W0.heap.size _ SL rfl KSy.out (stC y) rfl (by intro u hu; simp [stC] at hu; subst hu; rfl) wx.heap.size 1 rfl KRy.out hlj KBy.out.size (fun v2 w2 o2 g2 => hK _ _ ?_)); have KS2 := Kept.mk o2; have KB2 := Kept.mk (KBy.out.grown g2 KBy.out.size (fun q hq => (KSy.out.lt q hq).1)); clear o2 g2)))
          go_roundw
          case rel => exact ⟨j + 1, by omega, by go_num, by rw [KSs.out]; exact KS2.out, KB2.out⟩
          case measure => simp [intOf]; omega
        · have hji : ¬ (j : Int) < (m.length : Int) := by omega
          have KE : Kept (OwK wr w.heap.size 9 1 (.slice sa j sc) ((foldersF P).map stC)) := ⟨by
            have h1 := ow_mono KS.out Kwl.out
            rw [List.take_of_length_le (by omega)] at h1
            rw [KFo.out, List.map_map]
            exact h1⟩
          have KB3 : Kept (Below w.heap.size w wr) := ⟨KBr.out.trans (hbel.mono KBr.out.size)⟩
          clear hbel
          go_wp2
          go_ret
          exact ⟨_, rfl, KE.out, KB3.out⟩

open Go.RowKit Go.WideMaps Go.Maps

set_option maxHeartbeats 4000000 in
set_option maxRecDepth 100000 in
theorem sameFiles_any {G G' : Nat → Prop} (v u : Value) (la lb : List FlC) (w : World) (ha : RdK G w 2 v (la.map FlC.cs)) (hb : RdK G' w 2 u (lb.map FlC.cs)) (da : ∀ c ∈ la, Rd .u8 anyB w c.v c.xs ∧ AllB c.xs) (db : ∀ c ∈ lb, Rd .u8 anyB w c.v c.xs ∧ AllB c.xs) (he : (la.map fun c => (c.p, c.xs)) = lb.map fun c => (c.p, c.xs)) (hl : la.length ≤ 1000000) :
    Calls Tryz.prog 34 #[v, u] w fun e w' => e = .returned (.bool true) ∧ Below w.heap.size w w' := by
  obtain ⟨a, c, rfl, hlc, hrd⟩ := ha.openMap
  obtain ⟨a', c', rfl, hlc', hrd'⟩ := hb.openMap
  have hlen : lb.length = la.length := by have := congrArg List.length he; simpa using this.symm
  have KR := Kept.mk hrd
  have KR' := Kept.mk hrd'
  have Kda := Kept.mk da
  have Kdb := Kept.mk db
  have Klen := Kept.mk hlen
  have Kget : Kept (∀ i (h1 : i < la.length) (h2 : i < lb.length), (la[i]'h1).p = (lb[i]'h2).p ∧ (la[i]'h1).xs = (lb[i]'h2).xs) := ⟨fun i h1 h2 => by
    have h3 : (la.map fun c => (c.p, c.xs))[i]? = (lb.map fun c => (c.p, c.xs))[i]? := by rw [he]
    rw [List.getElem?_map, List.getElem?_map, List.getElem?_eq_getElem h1, List.getElem?_eq_getElem h2] at h3
    simpa using h3⟩
  have hli : (lb.length : Int) = (la.length : Int) := by omega
  rw [hlen] at hlc' ⊢
  clear ha hb hrd hrd' da db hlen hli he
  go_enter Tryz.func34, Tryz.ntmps34
  go_wp2
  go_loopw [13] (fun kv wr => ∃ k : Nat, k ≤ la.length ∧ kv = .int .i64 k ∧ Below w.heap.size w wr) (fun kv _ => la.length - (intOf kv).toNat)
  case atStart => exact ⟨0, Nat.zero_le _, rfl, Below.refl _ _⟩
  case round =>
    obtain ⟨k, hk, rfl, hbel⟩ := hrel
    have KBr := Kept.mk hbel
    by_cases hlt : k < la.length
    · have hki : (k : Int) < (la.length : Int) := by omega
      have hlt2 : k < lb.length := by have := Klen.out; omega
      obtain ⟨b, off, rfl, hbl, -, hrg⟩ := KR.out (by omega)
      obtain ⟨b2, off2, rfl, hbl2, -, hrg2⟩ := KR'.out (by omega)
      obtain ⟨x, hx⟩ : ∃ x, la[k]'hlt = x := ⟨_, rfl⟩
      obtain ⟨y, hy⟩ : ∃ y, lb[k]'hlt2 = y := ⟨_, rfl⟩
      have hxy := Kget.out k hlt hlt2
      have hxd := Kda.out _ (List.getElem_mem hlt)
      have hyd := Kdb.out _ (List.getElem_mem hlt2)
      rw [hx] at hxd hxy
      rw [hy] at hyd hxy
      have p0 : w.cell? ⟨b, off + k * 2, none⟩ = some (.string x.p) := by have := hrg k hlt 0 (.string x.p) (by rw [hx]; rfl); rwa [Nat.add_zero] at this
      have p1 : w.cell? ⟨b, off + k * 2 + 1, none⟩ = some x.v := hrg k hlt 1 x.v (by rw [hx]; rfl)
      have q0 : w.cell? ⟨b2, off2 + k * 2, none⟩ = some (.string y.p) := by have := hrg2 k hlt2 0 (.string y.p) (by rw [hy]; rfl); rwa [Nat.add_zero] at this
      have q1 : w.cell? ⟨b2, off2 + k * 2 + 1, none⟩ = some y.v := hrg2 k hlt2 1 y.v (by rw [hy]; rfl)
      obtain ⟨xp, xv, xs⟩ := x
      obtain ⟨yp, yv, ys⟩ := y
      simp only at hxy hxd hyd p0 p1 q0 q1
      obtain ⟨rfl, rfl⟩ := hxy
      obtain ⟨xa, xc, rfl, -, -, -⟩ := hxd.1.form
      obtain ⟨ya, yc, rfl, -, -, -⟩ := hyd.1.form
      have r0 : wr.cell? ⟨b, off + k * 2, none⟩ = some (.string xp) := by rw [hbel.cell (p := ⟨b, off + k * 2, none⟩) hbl]; exact p0
      have r1 : wr.cell? ⟨b, off + k * 2 + 1, none⟩ = some (.slice xa xs.length xc) := by rw [hbel.cell (p := ⟨b, off + k * 2 + 1, none⟩) hbl]; exact p1
      have s0 : wr.cell? ⟨b2, off2 + k * 2, none⟩ = some (.string xp) := by rw [hbel.cell (p := ⟨b2, off2 + k * 2, none⟩) hbl2]; exact q0
      have s1 : wr.cell? ⟨b2, off2 + k * 2 + 1, none⟩ = some (.slice ya xs.length yc) := by rw [hbel.cell (p := ⟨b2, off2 + k * 2 + 1, none⟩) hbl2]; exact q1
      have KSa : Kept (∀ n, Calls Tryz.prog 55 #[.slice xa xs.length xc, .slice ya xs.length yc] (wr.drewN n) fun e w' => e = .returned (.bool true) ∧ w' = wr.drewN n) := ⟨fun n => same_self _ _ xs _ ((hxd.1.later hbel (Nat.le_refl _)).later (below_drewN (Below.refl _ _) n) (Nat.le_refl _)) ((hyd.1.later hbel (Nat.le_refl _)).later (below_drewN (Below.refl _ _) n) (Nat.le_refl _)) hxd.2⟩
      have e2 : IntKind.i64.wrap ((k : Int) + 1) = (k : Int) + 1 := wr64 (by omega) (by omega)
      have hps : (xp.toList == xp.toList) = true := by simp
      have hk0 : (0 : Int) ≤ (k : Int) := by omega
      clear hbel hrg hrg2 hx hy p0 p1 q0 q1 hxd hyd
      go_upto_region 6 with fail
      go_quiet (first | (go_at_call 55; exact Calls.quiet_of_same (KSa.out _)))
      have KB2 : Kept (Below w.heap.size w (wr.drewN nq)) := ⟨KBr.out.trans (below_drewN (Below.refl _ _) nq |>.mono KBr.out.size)⟩
      go_wp2
      go_roundw
      case rel => exact ⟨k + 1, by omega, by go_num, KB2.out⟩
      case measure => simp [intOf]; omega
    · have hki : ¬ (k : Int) < (la.length : Int) := by omega
      clear hbel
      go_wp2
      go_ret
      exact ⟨rfl, KBr.out⟩
end Go.Proofs.YtegdadkejheagaaGreatDoor
