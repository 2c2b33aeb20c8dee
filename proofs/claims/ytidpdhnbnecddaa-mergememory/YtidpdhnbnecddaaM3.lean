/-
  Walks: merge's appendLines, appendEnded.
-/
import Derived.Test.YtidpdhnbnecddaaVT
import Derived.Lib.AppendStr
import Derived.Laws.Concat
namespace Go.Proofs.Ytidpdhnbnecddaa
open Go.RowKit

/-- The bytes of a text, as numbers. -/
def nms (s : ByteArray) : List Int := s.data.toList.map fun b => (b.toNat : Int)
theorem nms_length (s : ByteArray) : (nms s).length = s.size := by
  rw [nms, List.length_map, Array.length_toList]
  rfl
theorem strCells_nms (s : ByteArray) : Lib.strCells s = cellsK .u8 (nms s) := by
  rw [Lib.strCells, nms, cellsK, List.map_map]
  rfl
theorem nms_all (s : ByteArray) : AllB (nms s) := by
  intro x hx
  obtain ⟨b, -, rfl⟩ := List.mem_map.1 hx
  have := b.toNat_lt
  omega
/-- Lines as they are, one behind the other. -/
def jnd (L : List ByteArray) : List Int := (L.map nms).flatten
theorem jnd_nil : jnd [] = [] := rfl
theorem jnd_append (L M : List ByteArray) : jnd (L ++ M) = jnd L ++ jnd M := by simp [jnd]
theorem jnd_one (s : ByteArray) : jnd [s] = nms s := by simp [jnd]
theorem jnd_take {L : List ByteArray} {k : Nat} {s : ByteArray} (h : L[k]? = some s) : jnd (L.take (k + 1)) = jnd (L.take k) ++ nms s := by
  rw [List.take_add_one, h, Option.toList_some, jnd_append, jnd_one]
theorem jnd_le (L : List ByteArray) (k : Nat) : (jnd (L.take k)).length ≤ (jnd L).length := by
  have h := congrArg (fun L => (jnd L).length) (List.take_append_drop k L)
  simp only [jnd_append, List.length_append] at h
  omega
theorem jnd_all (L : List ByteArray) : AllB (jnd L) := by
  intro x hx
  obtain ⟨l, hl, hx⟩ := List.mem_flatten.1 hx
  obtain ⟨s, -, rfl⟩ := List.mem_map.1 hl
  exact nms_all s x hx
set_option maxRecDepth 100000 in
theorem info8z : ∃ i, Try.prog.info? 5 = some i ∧ i.zero = some (.int .u8 0) ∧ i.size = 1 ∧ i.bytes = 1 := ⟨_, rfl, rfl, rfl, rfl⟩
/-- A text of our own has grown: of the blocks that were there its own alone may have turned, and it lies where it lay or in a new one. -/
structure Gr (w w' : World) (v v' : Value) : Prop where
  fx : Fx (fun k => v.ownBlock = some k) w w'
  here : ∀ g, v'.ownBlock = some g → v.ownBlock = some g ∨ w.heap.size ≤ g
theorem Gr.refl (w : World) (v : Value) : Gr w w v v := ⟨Fx.refl _ _, fun _ h => .inl h⟩
theorem Gr.trans {w w1 w2 : World} {v v1 v2 : Value} (h : Gr w w1 v v1) (k : Gr w1 w2 v1 v2) : Gr w w2 v v2 := by
  refine ⟨h.fx.trans k.fx (fun i hi e => ?_), fun g hg => ?_⟩
  · rcases h.here i e with h1 | h1
    · exact h1
    · omega
  · rcases k.here g hg with h1 | h1
    · exact h.here g h1
    · exact .inr (Nat.le_trans h.fx.size h1)
theorem Gr.below {w w' : World} {v v' : Value} {B : Nat} (h : Gr w w' v v') (hB : B ≤ w.heap.size) (hv : ∀ g, v.ownBlock = some g → B ≤ g) : Below B w w' := h.fx.below hB (fun i hi e => by have := hv i e; omega)
theorem Gr.alloc (w : World) (v : Value) (o : Obj) : Gr w (w.alloc o) v v := ⟨Fx.alloc _ w o, fun _ h => .inl h⟩
theorem Gr.grown {w w' : World} {v v' : Value} (h : w.grownBy w' v.ownBlock) (hat : v'.ownBlock = v.ownBlock ∨ v'.ownBlock = some w.heap.size) : Gr w w' v v' := by
  refine ⟨Fx.grown h, fun g hg => ?_⟩
  rcases hat with e | e
  · exact .inl (by rw [← e]; exact hg)
  · rw [e] at hg; injection hg with hg; exact .inr (by omega)
/-- A block that is not the text's own stands as it stood. -/
theorem Gr.cell {w w' : World} {v v' : Value} (h : Gr w w' v v') {a : Addr} {u : Value} (hc : w.cell? a = some u) (hn : v.ownBlock ≠ some a.block) : w'.cell? a = some u := by
  have hlt : a.block < w.heap.size := by
    rcases Nat.lt_or_ge a.block w.heap.size with h1 | h1
    · exact h1
    · simp [World.cell?, Array.getElem?_eq_none h1] at hc
  rw [World.cell?_of_block (h.fx.block a.block hlt hn)]
  exact hc
section
variable {P : Program} (w : World)
theorem app_here (base : Nat) (t u ty e : TypeId) (i : TypeInfo) (ht : P.underlying t = some (.slice e)) (hu : P.underlying u = some .string) (hi : P.info? e = some i) (hz : i.zero = some (.int .u8 0))
    (hsize : i.size = 1) (hby : i.bytes = 1) (v : Value) (n : Nat) (xs : List Value) (hown : w.ownsRow base e 1 v n xs) (s : ByteArray) (hb : n + s.size ≤ 140737488355328)
    {v' : Value} {w' : World} (hr : (Builtin.append_ #[t, u] ty #[v, .string s]).run P w = .ok v' w') : v'.ownBlock = v.ownBlock ∨ v'.ownBlock = some w.heap.size := by
  have hxl : xs.length = n := by simpa using hown.1
  rcases hown.2 with ⟨rfl, rfl⟩ | ⟨g, cap, cur, rfl, hbg, hg, hnc, hcm, hcs, htake⟩
  · by_cases hm : s.size = 0
    · have hf := Lib.run_firstCells_string (P := P) w 1 s
      rw [hm] at hf
      have h2 : (Builtin.append_ #[t, u] ty #[.slice none 0 0, .string s]).run P w = .ok (.slice none 0 0) w := by
        simp [Builtin.append_, run_underlying ht, run_underlying hu, sizeOf, typeInfo, hi, hsize, Builtin.lenOf, hm, hf]
      rw [hr] at h2
      injection h2 with h2
      exact .inl (by rw [h2])
    · have h2 := run_append_nil_string (P := P) w t u ty e i (.int .u8 0) ht hu hi hz s (by omega) (by omega) (by rw [hby]; omega)
      rw [hr] at h2
      injection h2 with h2
      exact .inr (by rw [h2]; rfl)
  · by_cases hroom : n + s.size ≤ cap
    · have hcs' : cur.size = cap := by simpa using hcs
      have h2 := Lib.run_append_room_string (P := P) w t u ty e i ht hu hi hsize g n cap cur hg s hroom (by omega)
      rw [hr] at h2
      injection h2 with h2
      exact .inl (by rw [h2]; rfl)
    · have holds : ∀ j u, xs[j]? = some u → w.cell? ((⟨g, 0, none⟩ : Addr).add j) = some u := hown.cells (g := g) rfl
      have h2 := Lib.run_append_grow_string (P := P) w t u ty e i (.int .u8 0) ht hu hi hz ⟨g, 0, none⟩ n cap xs (by rw [hsize]; simpa using hxl) holds s (by omega) (by omega) (by rw [hby]; exact growslice_fits (by omega) (by omega))
      rw [hr] at h2
      injection h2 with h2
      exact .inr (by rw [h2]; rfl)
theorem wpList_append_str {ops : Array Oper} {rest : List Oper} {o : Oper} {a : Act} {Q : Exit → Act → World → Prop} (hgd : o.guard = none) (sl x : Operand) (t u : TypeId)
    (ho : o.op = .call { callee := .builtin .append, args := #[sl, x], argTypes := #[t, u] })
    (base : Nat) (e : TypeId) (i : TypeInfo) (ht : P.underlying t = some (.slice e)) (hu : P.underlying u = some .string) (hi : P.info? e = some i) (hz : i.zero = some (.int .u8 0))
    (hsize : i.size = 1) (hby : i.bytes = 1)
    (v : Value) (xs : List Int) (hs : a.eval sl = v) (hown : Own .u8 e w base v xs) (s : ByteArray) (hx : a.eval x = .string s)
    (hbytes : xs.length + s.size ≤ 140737488355328) (hbase : base ≤ w.heap.size)
    (h : ∀ v' w', Own .u8 e w' base v' (xs ++ nms s) → Gr w w' v v' → wpList P ops Q rest (a.put o.dst v') w') : wpList P ops Q (o :: rest) a w := by
  refine wpList_plain hgd fun K hK => ?_
  obtain ⟨v', w', hr, h2, h3, -⟩ := Lib.run_append_own_string (P := P) w base t u o.type e i ht hu hi hz hsize hby v xs.length (cellsK .u8 xs) hown s (by unfold maxLen; omega) hbytes hbase
  have h4 := app_here w base t u o.type e i ht hu hi hz hsize hby v xs.length (cellsK .u8 xs) hown s hbytes hr
  unfold Oper.wp execOp
  simp only [ho, resolve, invoke, builtin, Sem.run_bind, Sem.run_pure, Result.andThen_ok, List.map_toArray, List.map_cons, List.map_nil, hs, hx, hr]
  refine hK _ _ (h v' w' ?_ (Gr.grown h3 h4))
  rw [strCells_nms, ← cellsK_append] at h2
  unfold Own
  rw [List.length_append, nms_length]
  exact h2
end
/-- A list of lines that lies below a mark. -/
def RdB (B : Nat) (w : World) (v : Value) (L : List ByteArray) : Prop := B ≤ w.heap.size ∧ ∀ w', Below B w w' → RdS w' v L
theorem RdB.rd {B : Nat} {w : World} {v : Value} {L : List ByteArray} (h : RdB B w v L) : RdS w v L := h.2 w (Below.refl _ _)
theorem RdB.later {B : Nat} {w w' : World} {v : Value} {L : List ByteArray} (h : RdB B w v L) (hb : Below B w w') : RdB B w' v L := ⟨Nat.le_trans h.1 hb.size, fun w2 h2 => h.2 w2 (hb.trans h2)⟩
set_option maxHeartbeats 1000000 in
set_option maxRecDepth 100000 in
theorem appendLines_any (v u : Value) (xs : List Int) (L : List ByteArray) (w : World) (B : Nat) (ho : Own .u8 5 w B v xs) (hu : RdB B w u L) (hl : xs.length + (jnd L).length ≤ 70368744177664) (hL : L.length ≤ 1000000) :
    Calls Try.prog 23 #[v, u] w fun e w' => ∃ v', e = .returned v' ∧ Own .u8 5 w' B v' (xs ++ jnd L) ∧ Gr w w' v v' := by
  obtain ⟨i0, hi, hz, hsz, hbt⟩ := info8z
  have KU := Kept.mk hu
  have KO := Kept.mk ho
  have Kl := Kept.mk hl
  obtain ⟨pa, pc, rfl⟩ := hu.rd.form
  have KC : Kept (∀ k s, L[k]? = some s → ∃ b off, pa = some ⟨b, off, none⟩ ∧ ∀ w', Below B w w' → w'.cell? ⟨b, off + k, none⟩ = some (.string s)) := ⟨fun k s hs => by
    obtain ⟨p', c', he, -, hr⟩ := KU.out.rd
    have h0 : 0 < (L.map Value.string).length := by rw [List.length_map]; have := (List.getElem?_eq_some_iff.1 hs).1; omega
    obtain ⟨b, off, hp, -, -⟩ := hr h0
    injection he with e1 e2 e3
    refine ⟨b, off, by rw [e1, hp], fun w' hb => ?_⟩
    obtain ⟨p2, c2, he2, -, hr2⟩ := KU.out.2 w' hb
    obtain ⟨b2, off2, hp2, -, hrr⟩ := hr2 h0
    injection he2 with f1 f2 f3
    have := hrr k _ (by rw [List.getElem?_map, hs]; rfl)
    rw [← f1, e1, hp] at hp2
    injection hp2 with hp2
    injection hp2 with q1 q2
    rw [q1, q2]
    exact this⟩
  clear ho hu hl
  go_enter Try.func23, Try.ntmps23
  go_upto_region 2 with fail
  go_loopw [0, 9] (fun tv iv wr => ∃ k : Nat, k ≤ L.length ∧ iv = .int .i64 k ∧ Own .u8 5 wr B tv (xs ++ jnd (L.take k)) ∧ Gr w wr v tv) (fun _ iv _ => L.length - (intOf iv).toNat)
  case atStart => exact ⟨0, Nat.zero_le _, rfl, by rw [List.take_zero, jnd_nil, List.append_nil]; exact KO.out, Gr.refl _ _⟩
  case round =>
    obtain ⟨k, hk, rfl, hown, hgr⟩ := hrel
    have KG := Kept.mk hgr
    have hbw := hgr.below KU.out.1 (fun g hg => (KO.out.lt g hg).1)
    have KB := Kept.mk hbw
    have Kw := Kept.mk hown
    obtain ⟨ta, tc, rfl, -⟩ := hown.rd.form
    by_cases hkn : k < L.length
    · obtain ⟨s, hs⟩ : ∃ s, L[k]? = some s := ⟨_, List.getElem?_eq_getElem hkn⟩
      obtain ⟨b, off, rfl, hcell⟩ := KC.out k s hs
      have hc := hcell _ hbw
      have Ks := Kept.mk hs
      have Kn : Kept ((xs ++ jnd (L.take k)).length + s.size ≤ 70368744177664) := ⟨by
        have h1 := jnd_le L (k + 1)
        rw [jnd_take hs] at h1
        simp only [List.length_append, nms_length] at h1 ⊢
        have := Kl.out
        omega⟩
      have hki : (k : Int) < (L.length : Int) := by omega
      have n0 : (0 : Int) ≤ (k : Int) := by omega
      have e1 : IntKind.i64.wrap ((k : Int) + 1) = (k : Int) + 1 := wr64 (by omega) (by omega)
      clear hown hbw hcell hs hgr
      go_wp2_with (at_builtin; refine wpList_append_str _ rfl _ _ 22 9 rfl B 5 i0 Try.underlying22 Try.underlying9 hi hz hsz hbt _ _ rfl Kw.out s rfl (by have := Kn.out; omega) (Nat.le_trans KU.out.1 KB.out.size) ?_; intro v2 w2 hown2 hgrow2; have Ko2 := Kept.mk hown2; have Kb2 := Kept.mk (KG.out.trans hgrow2); clear hown2 hgrow2)
      go_roundw
      case rel =>
        refine ⟨k + 1, hkn, by go_num, ?_, Kb2.out⟩
        rw [jnd_take Ks.out, ← List.append_assoc]
        exact Ko2.out
      case measure => simp [intOf]; omega
    · obtain rfl : k = L.length := by omega
      have hki : ¬ (L.length : Int) < (L.length : Int) := by omega
      rw [List.take_length] at Kw ⊢
      clear hown hbw hgr
      go_wp2
      go_ret
      refine ⟨_, rfl, ?_, by have h := KG.out; rw [List.take_length, List.length_append] at h; exact h⟩
      have h := Kw.out
      rw [List.length_append] at h
      exact h
/-- Lines, the last of which ends with a line feed, behind a text that is not empty. -/
def endd (T : List Int) : List Int := if T.getLast? = some 10 then T else T ++ [10]
set_option maxHeartbeats 1000000 in
set_option maxRecDepth 100000 in
theorem appendEnded_any (v u : Value) (xs : List Int) (L : List ByteArray) (w : World) (B : Nat) (ho : Own .u8 5 w B v xs) (hu : RdB B w u L) (hl : xs.length + (jnd L).length ≤ 70368744177663) (hL : L.length ≤ 1000000) (h0 : 0 < xs.length) :
    Calls Try.prog 34 #[v, u] w fun e w' => ∃ v', e = .returned v' ∧ Own .u8 5 w' B v' (endd (xs ++ jnd L)) ∧ Gr w w' v v' := by
  obtain ⟨i0, z0, hi, hz, hsz, hbt, hzc⟩ := info8
  have K1 := Kept.mk (appendLines_any v u xs L w B ho hu (by omega) hL)
  have KU := Kept.mk hu.1
  have KL0 : Kept (∀ g, v.ownBlock = some g → B ≤ g) := ⟨fun g hg => (ho.lt g hg).1⟩
  obtain ⟨pa, pc, rfl⟩ := hu.rd.form
  obtain ⟨ta, tc, rfl, -⟩ := ho.rd.form
  have Kl := Kept.mk hl
  clear ho hu hl hL
  go_enter Try.func34, Try.ntmps34
  go_wp2_with fail
  refine Calls.mono K1.out (fun e w1 hp => ?_)
  obtain ⟨v1, rfl, ho1, hg1⟩ := hp
  have KG1 := Kept.mk hg1
  have hb1 := hg1.below KU.out KL0.out
  have KB1 := Kept.mk hb1
  have KO1 := Kept.mk ho1
  have hTl : (xs ++ jnd L).length ≤ 70368744177663 := by rw [List.length_append]; exact Kl.out
  have hT0 : 0 < (xs ++ jnd L).length := by rw [List.length_append]; omega
  clear K1 Kl
  generalize hTe : xs ++ jnd L = T at *
  have KT := Kept.mk hTe
  clear hTe
  obtain ⟨b, off, c, rfl, hb, -, -, -, hcs⟩ := ho1.rd.open hT0
  obtain ⟨n, hn⟩ : ∃ n, T.length = n + 1 := ⟨T.length - 1, by omega⟩
  have hc := hcs n (by omega)
  have Kt : Kept (T.getLast? = some (T.getD n 0)) := ⟨by
    rw [List.getLast?_eq_getElem?, hn, Nat.add_sub_cancel, List.getD, List.getElem?_eq_getElem (by omega)]
    rfl⟩
  have KN := Kept.mk hn
  clear ho1 hb1 hcs hb hg1
  rw [hn] at hTl ⊢
  generalize T.getD n 0 = x at *
  have e1 : IntKind.i64.wrap ((((n + 1 : Nat) : Int)) - 1) = (n : Int) := by rw [wr64 (by omega) (by omega)]; omega
  have n0 : (0 : Int) ≤ (n : Int) := by omega
  have n1 : (n : Int) < ((n + 1 : Nat) : Int) := by omega
  by_cases hx : x = 10
  · subst hx
    go_wp2
    go_ret
    refine ⟨_, rfl, ?_, by have h := KG1.out; rw [KN.out] at h; exact h⟩
    have h := KO1.out
    rw [KT.out]
    unfold endd
    rw [if_pos Kt.out]
    rw [KN.out] at h
    exact h
  · go_wp2_with (at_builtin; refine wpList_append_rd _ rfl _ _ 22 rfl .u8 anyB 1 B 5 i0 z0 Try.underlying22 hi hz hsz hbt hzc (by omega) _ T rfl (by have h := KO1.out.alloc (.cells #[.int .u8 10] 5); rw [KN.out] at h; exact h) _ [10] rfl (Rd.one .u8 w1 10 5) (by rw [KN.out]; simp; omega) (by have := KB1.out.size; have := KU.out; simp; omega) ?_; intro v2 w2 hown hgrow hat; have KO2 := Kept.mk hown; have KB2 : Kept (Gr w w2 (.slice ta xs.length tc) v2) := ⟨by have h := KG1.out; rw [KN.out] at h; exact h.trans ((Gr.alloc _ _ _).trans (Gr.grown hgrow hat))⟩; clear hown hgrow hat)
    go_ret
    refine ⟨_, rfl, ?_, KB2.out⟩
    rw [KT.out]
    unfold endd
    rw [if_neg (by rw [Kt.out]; intro h; injection h with h; exact hx h)]
    exact KO2.out


set_option maxHeartbeats 1000000 in
set_option maxRecDepth 100000 in
theorem slicesEqual_any (v u : Value) (a b : List ByteArray) (w : World) (hv : RdS w v a) (hu : RdS w u b) (hl : a.length ≤ 4000000) :
    Calls Try.prog 33 #[v, u] w fun e w' => e = .returned (.bool (decide (a = b))) ∧ Below w.heap.size w w' := by
  have KV := Kept.mk hv
  have KU := Kept.mk hu
  obtain ⟨pa, pc, rfl⟩ := hv.form
  obtain ⟨qa, qc, rfl⟩ := hu.form
  clear hv hu
  by_cases hlen : a.length = b.length
  · have hb0 : ((a.length : Int) != (b.length : Int)) = false := by simp [hlen]
    have Kl := Kept.mk hlen
    clear hlen
    go_enter Try.func33, Try.ntmps33
    go_upto_region 4 with fail
    clear hb0
    go_loopw [13] (fun iv wr => ∃ k : Nat, k ≤ a.length ∧ iv = .int .i64 k ∧ a.take k = b.take k ∧ Below w.heap.size w wr) (fun iv _ => a.length - (intOf iv).toNat)
    case atStart => exact ⟨0, Nat.zero_le _, rfl, rfl, Below.refl _ _⟩
    case round =>
      obtain ⟨k, hk, rfl, htk, hbel⟩ := hrel
      have KB := Kept.mk hbel
      have Kt := Kept.mk htk
      by_cases hlt : k < a.length
      · have hki : (k : Int) < (a.length : Int) := by omega
        have hkb : k < b.length := by rw [← Kl.out]; exact hlt
        have hki2 : (k : Int) < (b.length : Int) := by omega
        have i0 : (0 : Int) ≤ (k : Int) := by omega
        have e1 : IntKind.i64.wrap ((k : Int) + 1) = (k : Int) + 1 := wr64 (by omega) (by omega)
        obtain ⟨a', c', he, -, hr⟩ := KV.out.later hbel (Nat.le_refl _)
        rw [List.length_map] at he hr
        obtain ⟨b1, o1, hp1, hb1, hr1⟩ := hr (by omega)
        have hpae : pa = some ⟨b1, o1, none⟩ := by injection he with h1 h2 h3; rw [h1, hp1]
        subst hpae
        obtain ⟨a2, c2, he2, -, hr⟩ := KU.out.later hbel (Nat.le_refl _)
        rw [List.length_map] at he2 hr
        obtain ⟨b2, o2, hp2, hb2, hr2⟩ := hr (by omega)
        have hqae : qa = some ⟨b2, o2, none⟩ := by injection he2 with h1 h2 h3; rw [h1, hp2]
        subst hqae
        obtain ⟨s, hs⟩ : ∃ s, a[k]? = some s := ⟨_, List.getElem?_eq_getElem hlt⟩
        obtain ⟨t, ht⟩ : ∃ t, b[k]? = some t := ⟨_, List.getElem?_eq_getElem hkb⟩
        have cs : wr.cell? ⟨b1, o1 + k, none⟩ = some (.string s) := hr1 k _ (by rw [List.getElem?_map, hs]; rfl)
        have ct : wr.cell? ⟨b2, o2 + k, none⟩ = some (.string t) := hr2 k _ (by rw [List.getElem?_map, ht]; rfl)
        have Ks := Kept.mk hs
        have Kh := Kept.mk ht
        clear hr hr1 hr2 he he2 hp1 hp2 hs ht htk hbel KV KU
        by_cases hst : s = t
        · subst hst
          have KT := Kept.mk (take_grow Kt.out Ks.out Kh.out rfl)
          go_upto_region 6 with fail
          go_quiet (fail)
          generalize hw3 : World.drewN wr _ = w3
          have KB3 : Kept (Below w.heap.size w w3) := ⟨by rw [← hw3]; exact below_drewN KB.out _⟩
          clear hw3 cs ct
          go_wp2
          go_roundw
          case rel => exact ⟨k + 1, by omega, by go_num, KT.out, KB3.out⟩
          case measure => simp [intOf]; omega
        · have hsn : (s.toList == t.toList) = false := by
            rw [beq_eq_false_iff_ne]
            intro h
            apply hst
            rw [Lib.toList_data, Lib.toList_data] at h
            apply ByteArray.ext
            exact Array.ext' h
          have KD : Kept (decide (a = b) = false) := ⟨decide_eq_false fun e => hst (by
            have h1 := Ks.out
            rw [e, Kh.out] at h1
            injection h1 with h1
            exact h1.symm)⟩
          go_upto_region 6 with fail
          go_quiet (fail)
          generalize hw3 : World.drewN wr _ = w3
          have KB3 : Kept (Below w.heap.size w w3) := ⟨by rw [← hw3]; exact below_drewN KB.out _⟩
          clear hw3 cs ct
          go_wp2
          go_ret
          exact ⟨by rw [KD.out]; rfl, KB3.out⟩
      · have hki : ¬ (k : Int) < (a.length : Int) := by omega
        have KD : Kept (decide (a = b) = true) := ⟨decide_eq_true (by
          have h := Kt.out
          rw [List.take_of_length_le (by omega), List.take_of_length_le (by have := Kl.out; omega)] at h
          exact h)⟩
        clear htk hbel
        go_wp2
        go_ret
        exact ⟨by rw [KD.out]; rfl, KB.out⟩
  · have hb0 : ((a.length : Int) != (b.length : Int)) = true := by simp; omega
    have KD : Kept (decide (a = b) = false) := ⟨decide_eq_false fun e => hlen (by rw [e])⟩
    have KB : Kept (Below w.heap.size w w) := ⟨Below.refl _ _⟩
    clear hlen
    go_enter Try.func33, Try.ntmps33
    go_wp2
    go_ret
    exact ⟨by rw [KD.out]; rfl, KB.out⟩

/-- A block of three cells, made first, read later. -/
theorem box3 {w w1 : World} {x y z : Value} {T : TypeId} (hb : Below (w.alloc (.cells #[x, y, z] T)).heap.size (w.alloc (.cells #[x, y, z] T)) w1) :
    w1.cell? ⟨w.heap.size, 0, none⟩ = some x ∧ w1.cell? ⟨w.heap.size, 1, none⟩ = some y ∧ w1.cell? ⟨w.heap.size, 2, none⟩ = some z := by
  have e := hb.block w.heap.size (by simp)
  have h0 := World.cell?_of_block (w := w.alloc (.cells #[x, y, z] T)) (a := ⟨w.heap.size, 0, none⟩) e
  have h1 := World.cell?_of_block (w := w.alloc (.cells #[x, y, z] T)) (a := ⟨w.heap.size, 1, none⟩) e
  have h2 := World.cell?_of_block (w := w.alloc (.cells #[x, y, z] T)) (a := ⟨w.heap.size, 2, none⟩) e
  rw [h0, h1, h2]
  refine ⟨?_, ?_, ?_⟩ <;> (simp only [World.cell?, heap_alloc_new]; rfl)
/-- What settle answers. -/
def settV (a b : Value) (O A B : List ByteArray) : Value := if A = O then .tuple #[b, .bool true] else if B = O then .tuple #[a, .bool true] else if A = B then .tuple #[a, .bool true] else .tuple #[.slice none 0 0, .bool false]
set_option maxHeartbeats 1000000 in
set_option maxRecDepth 100000 in
theorem settle_any (o a b : Value) (O A B : List ByteArray) (w : World) (ho : RdS w o O) (ha : RdS w a A) (hb : RdS w b B) (lA : A.length ≤ 4000000) (lB : B.length ≤ 4000000) :
    Calls Try.prog 22 #[.agg #[o, a, b]] w fun e w' => e = .returned (settV a b O A B) ∧ Below w.heap.size w w' := by
  have KO := Kept.mk ho
  have KA := Kept.mk ha
  have KB := Kept.mk hb
  obtain ⟨po, co, rfl⟩ := ho.form
  obtain ⟨pa, ca, rfl⟩ := ha.form
  obtain ⟨pb, cb, rfl⟩ := hb.form
  clear ho ha hb
  go_enter Try.func22, Try.ntmps22
  go_wp2_with fail
  have KBa := Kept.mk ((Below.refl w.heap.size w).alloc (Nat.le_refl _) (.cells #[.slice po O.length co, .slice pa A.length ca, .slice pb B.length cb] 46))
  have h1 := slicesEqual_any _ _ A O _ (KA.out.later KBa.out (Nat.le_refl _)) (KO.out.later KBa.out (Nat.le_refl _)) lA
  refine Calls.mono h1 (fun e w1 hp => ?_)
  obtain ⟨rfl, hb1⟩ := hp
  obtain ⟨c0, c1, c2⟩ := box3 hb1
  have KB1 := Kept.mk (KBa.out.trans (hb1.mono KBa.out.size))
  have Kn1 := Kept.mk hb1
  clear h1 hb1
  by_cases hAO : A = O
  · have e : settV (.slice pa A.length ca) (.slice pb B.length cb) O A B = .tuple #[.slice pb B.length cb, .bool true] := if_pos hAO
    have Ke := Kept.mk e
    rw [decide_eq_true hAO]
    clear hAO e
    go_wp2
    go_ret2
    exact ⟨by rw [Ke.out]; rfl, KB1.out⟩
  · rw [decide_eq_false hAO]
    have K2 := Kept.mk (slicesEqual_any _ _ B O _ (KB.out.later KB1.out (Nat.le_refl _)) (KO.out.later KB1.out (Nat.le_refl _)) lB)
    go_wp2_with fail
    refine Calls.mono K2.out (fun e w2 hp => ?_)
    obtain ⟨rfl, hb2⟩ := hp
    have hn2 := Kn1.out.trans (hb2.mono Kn1.out.size)
    obtain ⟨d0, d1, d2⟩ := box3 hn2
    have KB2 := Kept.mk (KB1.out.trans (hb2.mono KB1.out.size))
    have Kn2 := Kept.mk hn2
    clear K2 hb2 c0 c1 c2 hn2
    by_cases hBO : B = O
    · have e : settV (.slice pa A.length ca) (.slice pb B.length cb) O A B = .tuple #[.slice pa A.length ca, .bool true] := by unfold settV; rw [if_neg hAO, if_pos hBO]
      have Ke := Kept.mk e
      rw [decide_eq_true hBO]
      clear hAO hBO e
      go_wp2
      go_ret2
      exact ⟨by rw [Ke.out]; rfl, KB2.out⟩
    · rw [decide_eq_false hBO]
      have K3 := Kept.mk (slicesEqual_any _ _ A B _ (KA.out.later KB2.out (Nat.le_refl _)) (KB.out.later KB2.out (Nat.le_refl _)) lA)
      go_wp2_with fail
      refine Calls.mono K3.out (fun e w3 hp => ?_)
      obtain ⟨rfl, hb3⟩ := hp
      obtain ⟨f0, f1, f2⟩ := box3 (Kn2.out.trans (hb3.mono Kn2.out.size))
      have KB3 := Kept.mk (KB2.out.trans (hb3.mono KB2.out.size))
      clear K3 hb3 d0 d1 d2
      by_cases hAB : A = B
      · have e : settV (.slice pa A.length ca) (.slice pb B.length cb) O A B = .tuple #[.slice pa A.length ca, .bool true] := by unfold settV; rw [if_neg hAO, if_neg hBO, if_pos hAB]
        have Ke := Kept.mk e
        rw [decide_eq_true hAB]
        clear hAO hBO hAB e
        go_wp2
        go_ret2
        exact ⟨by rw [Ke.out]; rfl, KB3.out⟩
      · have e : settV (.slice pa A.length ca) (.slice pb B.length cb) O A B = .tuple #[.slice none 0 0, .bool false] := by unfold settV; rw [if_neg hAO, if_neg hBO, if_neg hAB]
        have Ke := Kept.mk e
        rw [decide_eq_false hAB]
        clear hAO hBO hAB e
        go_wp2
        go_ret2
        exact ⟨by rw [Ke.out]; rfl, KB3.out⟩


def mkA : ByteArray := ⟨#[60, 60, 60, 60, 60, 60, 60, 32]⟩
def mkO : ByteArray := ⟨#[124, 124, 124, 124, 124, 124, 124, 32, 98, 97, 115, 101, 10]⟩
def mkE : ByteArray := ⟨#[61, 61, 61, 61, 61, 61, 61, 10]⟩
def mkZ : ByteArray := ⟨#[62, 62, 62, 62, 62, 62, 62, 32]⟩
def mkL : ByteArray := ⟨#[10]⟩
def cl1 (xs : List Int) (l0 : ByteArray) : List Int := xs ++ nms (mkA ++ l0 ++ mkL)
def cl2 (xs : List Int) (l0 : ByteArray) (A : List ByteArray) : List Int := endd (cl1 xs l0 ++ jnd A)
def cl3 (xs : List Int) (l0 : ByteArray) (A : List ByteArray) : List Int := cl2 xs l0 A ++ nms mkO
def cl4 (xs : List Int) (l0 : ByteArray) (A O : List ByteArray) : List Int := endd (cl3 xs l0 A ++ jnd O)
def cl5 (xs : List Int) (l0 : ByteArray) (A O : List ByteArray) : List Int := cl4 xs l0 A O ++ nms mkE
def cl6 (xs : List Int) (l0 : ByteArray) (A O B : List ByteArray) : List Int := endd (cl5 xs l0 A O ++ jnd B)
/-- A text with a clash behind it. -/
def clash (xs : List Int) (l0 l1 : ByteArray) (O A B : List ByteArray) : List Int := cl6 xs l0 A O B ++ nms (mkZ ++ l1 ++ mkL)
theorem endd_len (T : List Int) : T.length ≤ (endd T).length ∧ (endd T).length ≤ T.length + 1 := by
  unfold endd
  split
  · omega
  · simp
theorem size_cat (a b : ByteArray) : (a ++ b).size = a.size + b.size := ByteArray.size_append
theorem RdB.gr {B : Nat} {w w' : World} {v t t' : Value} {L : List ByteArray} (h : RdB B w v L) (hg : Gr w w' t t') (ht : ∀ g, t.ownBlock = some g → B ≤ g) : RdB B w' v L := h.later (hg.below h.1 ht)
theorem box2 {w : World} {x y : Value} {T : TypeId} : (w.alloc (.cells #[x, y] T)).cell? ⟨w.heap.size, 0, none⟩ = some x ∧ (w.alloc (.cells #[x, y] T)).cell? ⟨w.heap.size, 1, none⟩ = some y := by
  refine ⟨?_, ?_⟩ <;> (simp only [World.cell?, heap_alloc_new]; rfl)
/-- Where appendClash stands: the boxes of the piece and of the labels, and the text of its own. -/
structure CSt (w W : World) (B : Nat) (t v : Value) (T : List Int) (o a b : Value) (l0 l1 : ByteArray) : Prop where
  own : Own .u8 5 W B v T
  gr : Gr w W t v
  sz : w.heap.size + 2 ≤ W.heap.size
  p0 : W.cell? ⟨w.heap.size, 0, none⟩ = some o
  p1 : W.cell? ⟨w.heap.size, 1, none⟩ = some a
  p2 : W.cell? ⟨w.heap.size, 2, none⟩ = some b
  q0 : W.cell? ⟨w.heap.size + 1, 0, none⟩ = some (.string l0)
  q1 : W.cell? ⟨w.heap.size + 1, 1, none⟩ = some (.string l1)
  far : ∀ g, v.ownBlock = some g → g < w.heap.size ∨ w.heap.size + 2 ≤ g
theorem CSt.step {w W W' : World} {B : Nat} {t v v' : Value} {T T' : List Int} {o a b : Value} {l0 l1 : ByteArray} (h : CSt w W B t v T o a b l0 l1) (ho : Own .u8 5 W' B v' T') (hg : Gr W W' v v') : CSt w W' B t v' T' o a b l0 l1 := by
  have n1 : v.ownBlock ≠ some w.heap.size := fun e => by have := h.far _ e; omega
  have n2 : v.ownBlock ≠ some (w.heap.size + 1) := fun e => by have := h.far _ e; omega
  refine ⟨ho, h.gr.trans hg, Nat.le_trans h.sz hg.fx.size, hg.cell h.p0 n1, hg.cell h.p1 n1, hg.cell h.p2 n1, hg.cell h.q0 n2, hg.cell h.q1 n2, fun g e => ?_⟩
  rcases hg.here g e with h1 | h1
  · exact h.far g h1
  · have := h.sz
    exact .inr (by omega)
theorem CSt.start {w : World} {B : Nat} {t : Value} {T : List Int} (o a b : Value) (l0 l1 : ByteArray) (T1 T2 : TypeId) (h : Own .u8 5 w B t T) : CSt w ((w.alloc (.cells #[o, a, b] T1)).alloc (.cells #[.string l0, .string l1] T2)) B t t T o a b l0 l1 := by
  obtain ⟨c0, c1, c2⟩ := box3 (x := o) (y := a) (z := b) (T := T1) ((Below.refl (w.alloc (.cells #[o, a, b] T1)).heap.size (w.alloc (.cells #[o, a, b] T1))).alloc (Nat.le_refl _) (.cells #[.string l0, .string l1] T2))
  obtain ⟨d0, d1⟩ := box2 (w := w.alloc (.cells #[o, a, b] T1)) (x := .string l0) (y := .string l1) (T := T2)
  have e : (w.alloc (.cells #[o, a, b] T1)).heap.size = w.heap.size + 1 := by simp
  rw [e] at d0 d1
  exact ⟨(h.alloc _).alloc _, (Gr.alloc _ _ _).trans (Gr.alloc _ _ _), by simp, c0, c1, c2, d0, d1, fun g hg => .inl (h.lt g hg).2⟩
set_option maxHeartbeats 1000000 in
set_option maxRecDepth 100000 in
theorem appendClash_any (o a b t : Value) (l0 l1 : ByteArray) (xs : List Int) (O A C : List ByteArray) (w : World) (B : Nat) (hT : Own .u8 5 w B t xs) (ho : RdB B w o O) (ha : RdB B w a A) (hb : RdB B w b C)
    (h0 : l0.size ≤ 1000) (h1 : l1.size ≤ 1000) (lO : O.length ≤ 1000000) (lA : A.length ≤ 1000000) (lC : C.length ≤ 1000000) (hl : xs.length + (jnd O).length + (jnd A).length + (jnd C).length ≤ 70368744100000) :
    Calls Try.prog 24 #[.agg #[o, a, b], t, .agg #[.string l0, .string l1]] w fun e w' => ∃ v', e = .returned v' ∧ Own .u8 5 w' B v' (clash xs l0 l1 O A C) ∧ Gr w w' t v' := by
  obtain ⟨i0, hi, hz, hsz, hbt⟩ := info8z
  have KO := Kept.mk ho
  have KA := Kept.mk ha
  have KC := Kept.mk hb
  have KT := Kept.mk hT
  obtain ⟨po, co, rfl⟩ := ho.rd.form
  obtain ⟨pa, ca, rfl⟩ := ha.rd.form
  obtain ⟨pb, cb, rfl⟩ := hb.rd.form
  have s0 : (mkA ++ l0 ++ mkL).size = l0.size + 9 := by rw [size_cat, size_cat]; show 8 + l0.size + 1 = _; omega
  have s1 : (mkZ ++ l1 ++ mkL).size = l1.size + 9 := by rw [size_cat, size_cat]; show 8 + l1.size + 1 = _; omega
  have q1 : (cl1 xs l0).length = xs.length + (l0.size + 9) := by unfold cl1; rw [List.length_append, nms_length, s0]
  have q2 : (cl2 xs l0 A).length ≤ xs.length + (l0.size + 9) + (jnd A).length + 1 := by
    have := (endd_len (cl1 xs l0 ++ jnd A)).2
    unfold cl2
    rw [List.length_append] at this
    omega
  have q2' : 0 < (cl2 xs l0 A).length := by
    have := (endd_len (cl1 xs l0 ++ jnd A)).1
    unfold cl2
    rw [List.length_append] at this
    omega
  have q3 : (cl3 xs l0 A).length = (cl2 xs l0 A).length + 13 := by unfold cl3; rw [List.length_append, nms_length]; rfl
  have q4 : (cl4 xs l0 A O).length ≤ (cl3 xs l0 A).length + (jnd O).length + 1 ∧ (cl3 xs l0 A).length ≤ (cl4 xs l0 A O).length := by
    have := endd_len (cl3 xs l0 A ++ jnd O)
    unfold cl4
    rw [List.length_append] at this
    omega
  have q5 : (cl5 xs l0 A O).length = (cl4 xs l0 A O).length + 8 := by unfold cl5; rw [List.length_append, nms_length]; rfl
  have q6 : (cl6 xs l0 A O C).length ≤ (cl5 xs l0 A O).length + (jnd C).length + 1 := by
    have := (endd_len (cl5 xs l0 A O ++ jnd C)).2
    unfold cl6
    rw [List.length_append] at this
    omega
  have KQ : Kept ((cl1 xs l0).length + (jnd A).length ≤ 70368744177663 ∧ 0 < (cl1 xs l0).length ∧ (cl2 xs l0 A).length + 13 ≤ 140737488355328 ∧ (cl3 xs l0 A).length + (jnd O).length ≤ 70368744177663 ∧ 0 < (cl3 xs l0 A).length ∧ (cl4 xs l0 A O).length + 8 ≤ 140737488355328 ∧ (cl5 xs l0 A O).length + (jnd C).length ≤ 70368744177663 ∧ 0 < (cl5 xs l0 A O).length ∧ (cl6 xs l0 A O C).length + (l1.size + 9) ≤ 140737488355328 ∧ xs.length + (l0.size + 9) ≤ 140737488355328) := ⟨by omega⟩
  have a1 := fun W => run_string_add (P := Try.prog) W mkA l0 (by decide) (by omega)
  have a2 := fun W => run_string_add (P := Try.prog) W (mkA ++ l0) mkL (by rw [size_cat]; show ((8 + l0.size : Nat) : Int) ≤ _; omega) (by decide)
  have Ks0 := Kept.mk s0
  have Ks1 := Kept.mk s1
  have KlA := Kept.mk lA
  have KlO := Kept.mk lO
  have KlC := Kept.mk lC
  clear q1 q2 q2' q3 q4 q5 q6 ho ha hb hT hl s0 s1 lA lO lC h0
  have KW : Kept (∀ g, t.ownBlock = some g → B ≤ g ∧ g < w.heap.size) := ⟨fun g hg => KT.out.lt g hg⟩
  obtain ⟨ta, tc, rfl, -⟩ := KT.out.rd.form
  go_enter Try.func24, Try.ntmps24
  go_upto_region 1 with fail
  have hst := CSt.start (.slice po O.length co) (.slice pa A.length ca) (.slice pb C.length cb) l0 l1 46 23 KT.out
  generalize hW : (w.alloc (.cells #[.slice po O.length co, .slice pa A.length ca, .slice pb C.length cb] 46)).alloc (.cells #[.string l0, .string l1] 23) = W at *
  have S0 := Kept.mk hst
  have f0 := hst.q0
  clear hst hW
  simp only [mkA, mkL] at a1 a2
  go_wp2_with (at_builtin; refine wpList_append_str _ rfl _ _ 22 9 rfl B 5 i0 Try.underlying22 Try.underlying9 hi hz hsz hbt _ (xs) rfl S0.out.own (mkA ++ l0 ++ mkL) rfl (by have h := KQ.out; rw [Ks0.out]; omega) (by have := S0.out.gr.fx.size; have := KO.out.1; omega) ?_; intro v1 W1 hown hgrow; have S1 := Kept.mk (S0.out.step hown hgrow); have c1 := S1.out.p1; clear hown hgrow f0)
  refine Calls.mono (appendEnded_any _ _ (cl1 xs l0) A _ B S1.out.own (KA.out.gr S1.out.gr (fun g hg => (KW.out g hg).1)) KQ.out.1 KlA.out KQ.out.2.1) (fun e w' hp => ?_)
  obtain ⟨v2, rfl, hown, hgrow⟩ := hp
  have S2 := Kept.mk (S1.out.step hown hgrow)
  clear hown hgrow c1
  go_wp2_with (at_builtin; refine wpList_append_str _ rfl _ _ 22 9 rfl B 5 i0 Try.underlying22 Try.underlying9 hi hz hsz hbt _ (cl2 xs l0 A) rfl S2.out.own mkO rfl (by have h := KQ.out; exact h.2.2.1) (by have := S2.out.gr.fx.size; have := KO.out.1; omega) ?_; intro v3 W3 hown hgrow; have S3 := Kept.mk (S2.out.step hown hgrow); have c3 := S3.out.p0; clear hown hgrow)
  refine Calls.mono (appendEnded_any _ _ (cl3 xs l0 A) O _ B S3.out.own (KO.out.gr S3.out.gr (fun g hg => (KW.out g hg).1)) KQ.out.2.2.2.1 KlO.out KQ.out.2.2.2.2.1) (fun e w' hp => ?_)
  obtain ⟨v4, rfl, hown, hgrow⟩ := hp
  have S4 := Kept.mk (S3.out.step hown hgrow)
  clear hown hgrow c3
  go_wp2_with (at_builtin; refine wpList_append_str _ rfl _ _ 22 9 rfl B 5 i0 Try.underlying22 Try.underlying9 hi hz hsz hbt _ (cl4 xs l0 A O) rfl S4.out.own mkE rfl (by have h := KQ.out; exact h.2.2.2.2.2.1) (by have := S4.out.gr.fx.size; have := KO.out.1; omega) ?_; intro v5 W5 hown hgrow; have S5 := Kept.mk (S4.out.step hown hgrow); have c5 := S5.out.p2; clear hown hgrow)
  refine Calls.mono (appendEnded_any _ _ (cl5 xs l0 A O) C _ B S5.out.own (KC.out.gr S5.out.gr (fun g hg => (KW.out g hg).1)) KQ.out.2.2.2.2.2.2.1 KlC.out KQ.out.2.2.2.2.2.2.2.1) (fun e w' hp => ?_)
  obtain ⟨v6, rfl, hown, hgrow⟩ := hp
  have S6 := Kept.mk (S5.out.step hown hgrow)
  clear hown hgrow c5
  have f6 := S6.out.q1
  have a3 := fun W => run_string_add (P := Try.prog) W mkZ l1 (by decide) (by omega)
  have a4 := fun W => run_string_add (P := Try.prog) W (mkZ ++ l1) mkL (by rw [size_cat]; show ((8 + l1.size : Nat) : Int) ≤ _; omega) (by decide)
  simp only [mkZ, mkL] at a3 a4
  go_wp2_with (at_builtin; refine wpList_append_str _ rfl _ _ 22 9 rfl B 5 i0 Try.underlying22 Try.underlying9 hi hz hsz hbt _ (cl6 xs l0 A O C) rfl S6.out.own (mkZ ++ l1 ++ mkL) rfl (by have h := KQ.out; rw [Ks1.out]; exact h.2.2.2.2.2.2.2.2.1) (by have := S6.out.gr.fx.size; have := KO.out.1; omega) ?_; intro v7 W7 hown hgrow; have S7 := Kept.mk (S6.out.step hown hgrow); clear hown hgrow)
  go_ret
  exact ⟨_, rfl, S7.out.own, S7.out.gr⟩
end Go.Proofs.Ytidpdhnbnecddaa
