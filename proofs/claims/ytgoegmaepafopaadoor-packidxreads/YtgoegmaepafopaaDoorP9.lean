/-
  Walks: Clone of rows; SortFunc in the vocabulary of rows.
-/
import Derived.Test.YtgoegmaepafopaaDoorP7
namespace Go.Proofs.YtgoegmaepafopaaDoor
open Go.RowKit Go.Sort Go.Shelf

set_option maxRecDepth 100000 in
theorem infoR : ∃ i z, Tryd.prog.info? 39 = some i ∧ i.zero = some z ∧ i.size = 34 ∧ i.bytes = 48 ∧ z.cells.size = 34 := by
  refine ⟨_, _, rfl, rfl, rfl, rfl, rfl⟩
theorem RdR.cells {w : World} {b off n c : Nat} {rs : List RowC} (h : RdR w (.slice (some ⟨b, off, none⟩) n c) rs) (h0 : 0 < rs.length) : ∀ j u, (rs.flatMap RowC.l)[j]? = some u → w.cell? ((⟨b, off, none⟩ : Addr).add j) = some u := by
  intro j u hu
  obtain ⟨a, c', h1, h2, h2', h3, h4, h5⟩ := h
  obtain ⟨b', off', h6, h7, h8⟩ := h5 h0
  simp at h1
  rw [h6] at h1
  simp at h1
  obtain ⟨⟨rfl, rfl⟩, -, -⟩ := h1
  have hlen := flat_len h4
  have hj : j < rs.length * 34 := by
    rw [← hlen]
    rcases Nat.lt_or_ge j (rs.flatMap RowC.l).length with h | h
    · exact h
    · rw [List.getElem?_eq_none h] at hu; cases hu
  have e : j = j / 34 * 34 + j % 34 := by omega
  rw [add_plain, show off + j = off + j / 34 * 34 + j % 34 by omega]
  refine h8 (j / 34) (by omega) (j % 34) u ?_
  rw [← flat_get h4 (by omega) (by omega), ← e]
  exact hu
theorem flat_ones (rs : List RowC) : ∀ u ∈ rs.flatMap RowC.l, u.oneCell' = true := by
  intro u hu
  obtain ⟨r, _, hr⟩ := List.mem_flatMap.1 hu
  exact RowC.ones r u hr

/-- append of rows onto rows of the call's own. -/
theorem run_append_rows {P : Program} (w : World) (base : Nat) (t ty e : TypeId) (i : TypeInfo) (z : Value) (ht : P.underlying t = some (.slice e)) (hi : P.info? e = some i) (hz : i.zero = some z) (hsize : i.size = 34) (hby : i.bytes = 48) (hzs : z.cells.size = 34)
    (v : Value) (xs : List RowC) (hown : OwnR e w base v xs) (x : Value) (ys : List RowC) (hs : RdR w x ys) (hbytes : (xs.length + ys.length) * 48 ≤ 140737488355328) (hbase : base ≤ w.heap.size) :
    ∃ v' w', (Builtin.append_ #[t, t] ty #[v, x]).run P w = .ok v' w' ∧ OwnR e w' base v' (xs ++ ys) ∧ w.grownBy w' v.ownBlock ∧ (v'.ownBlock = v.ownBlock ∨ v'.ownBlock = some w.heap.size) := by
  have hok : ∀ r ∈ xs ++ ys, r.ok := fun r hr => by
    rcases List.mem_append.1 hr with hr | hr
    · exact hown.2 r hr
    · exact hs.ok r hr
  have hs' := hs
  obtain ⟨a, c, rfl, h1, h2, h3, h4, h5⟩ := hs
  by_cases h0 : 0 < ys.length
  · obtain ⟨b, off, rfl, _, _⟩ := h5 h0
    obtain ⟨v', w', g1, g2, g3, _, g4⟩ := run_append_own_at (P := P) w base t ty e i z 34 48 ht hi hz hsize hby hzs (by decide) v _ _ hown.1 ⟨b, off, none⟩ ys.length c (ys.flatMap RowC.l) (flat_len h4) (hs'.cells h0) (flat_ones ys) (by unfold maxLen; omega) hbytes hbase
    exact ⟨v', w', g1, ⟨by rw [List.flatMap_append, List.length_append]; exact g2, hok⟩, g3, g4⟩
  · have hx : ys = [] := List.eq_nil_of_length_eq_zero (by omega)
    subst hx
    simp only [List.append_nil, List.length_nil]
    rcases hown.1.2 with ⟨rfl, hn⟩ | ⟨g, cap, cur, rfl, hbg, hg, hnc, hcm, hcs, htake⟩
    · exact ⟨_, w, run_append_zero w t ty e i ht hi none 0 0 (Nat.le_refl _) a c, hown, ⟨rfl, rfl, rfl, Nat.le_refl _, fun _ _ _ => rfl⟩, Or.inl rfl⟩
    · exact ⟨_, w, run_append_zero w t ty e i ht hi _ _ cap hnc a c, hown, ⟨rfl, rfl, rfl, Nat.le_refl _, fun _ _ _ => rfl⟩, Or.inl rfl⟩
/-- The same, at the operation, for the walk. -/
theorem wpList_append_rows {P : Program} (w : World) {ops : Array Oper} {rest : List Oper} {o : Oper} {a : Act} {Q : Exit → Act → World → Prop} (hgd : o.guard = none) (s x : Operand) (t : TypeId)
    (ho : o.op = .call { callee := .builtin .append, args := #[s, x], argTypes := #[t, t] })
    (base : Nat) (e : TypeId) (i : TypeInfo) (z : Value) (ht : P.underlying t = some (.slice e)) (hi : P.info? e = some i) (hz : i.zero = some z) (hsize : i.size = 34) (hby : i.bytes = 48) (hzs : z.cells.size = 34)
    (v : Value) (xs : List RowC) (hsv : a.eval s = v) (hown : OwnR e w base v xs)
    (xv : Value) (ys : List RowC) (hx : a.eval x = xv) (hs : RdR w xv ys)
    (hbytes : (xs.length + ys.length) * 48 ≤ 140737488355328) (hbase : base ≤ w.heap.size)
    (h : ∀ v' w', OwnR e w' base v' (xs ++ ys) → w.grownBy w' v.ownBlock → (v'.ownBlock = v.ownBlock ∨ v'.ownBlock = some w.heap.size) → wpList P ops Q rest (a.put o.dst v') w') :
    wpList P ops Q (o :: rest) a w := by
  refine wpList_plain hgd fun K hK => ?_
  obtain ⟨v', w', hr, h2, h3, h4⟩ := run_append_rows (P := P) w base t o.type e i z ht hi hz hsize hby hzs v xs hown xv ys hs hbytes hbase
  unfold Oper.wp execOp
  simp only [ho, resolve, invoke, builtin, Sem.run_bind, Sem.run_pure, Result.andThen_ok, List.map_toArray, List.map_cons, List.map_nil, hsv, hx, hr]
  exact hK _ _ (h v' w' h2 h3 h4)

set_option maxHeartbeats 1000000 in
set_option maxRecDepth 100000 in
theorem cloneR_any (v : Value) (rs : List RowC) (w : World) (h : RdR w v rs) (hl : rs.length ≤ 1000000) :
    Calls Tryd.prog 34 #[v] w fun e w' => ∃ v', e = .returned v' ∧ OwnR 39 w' w.heap.size v' rs ∧ Below w.heap.size w w' := by
  obtain ⟨i0, z0, hi, hz, hs, hb, hc⟩ := infoR
  have q22 : ∀ (w : World) (a : Option Addr) (n c n' c' : Nat), (binOp .eql 26 (.slice a n c) (.slice none n' c')).run Tryd.prog w = .ok (.bool a.isNone) w := fun w a n c n' c' => Lib.run_eql_slice_nil w _ _ a n c n' c' Tryd.underlying26
  obtain ⟨a, c, hv⟩ : ∃ a c, v = .slice a rs.length c := by
    obtain ⟨a, c, hv, _⟩ := h
    exact ⟨a, c, hv⟩
  subst hv
  cases a with
  | none =>
    have hx : rs = [] := by
      obtain ⟨a, c', hv, h1, _, h4, _⟩ := h
      injection hv with e1 e2 e3
      subst e1
      have := h4 rfl
      exact List.eq_nil_of_length_eq_zero (by omega)
    subst hx
    clear h
    go_enter Tryd.func34, Tryd.ntmps34
    go_wp2
    go_ret
    exact ⟨_, rfl, OwnR.nil _ w _, Below.refl _ _⟩
  | some a =>
    have hr : Kept (RdR (w.alloc (.cells #[] 39)) (.slice (some a) rs.length c) rs) := ⟨h.later ((Below.refl _ _).alloc (Nat.le_refl _) _) (Nat.le_refl _)⟩
    clear h
    have ho : Kept (OwnR 39 (w.alloc (.cells #[] 39)) w.heap.size (.slice (some ⟨w.heap.size, 0, none⟩) 0 0) []) := ⟨World.ownsRow_made w #[] 0 (Nat.le_refl _) (Nat.zero_le _) rfl, fun _ h => by cases h⟩
    go_enter Tryd.func34, Tryd.ntmps34
    go_wp2_with (at_builtin; refine wpList_append_rows _ rfl _ _ 26 rfl w.heap.size 39 i0 z0 Tryd.underlying26 hi hz hs hb hc (.slice (some ⟨w.heap.size, 0, none⟩) 0 0) [] rfl ho.out _ rs rfl hr.out (by simp; omega) (by simp) ?_; intro v' w1 hown hgrow hat; have KO := Kept.mk hown; have KG := Kept.mk hgrow; clear hown hgrow hat)
    go_ret
    exact ⟨v', rfl, KO.out, ((Below.refl _ w).alloc (Nat.le_refl _) _).grown KG.out (by simp) (by intro k hk; simp [Value.ownBlock] at hk; omega)⟩

theorem attach_val : ∀ (rs : List RowC) (h : ∀ r ∈ rs, r.ok), (rs.attachWith RowC.ok h).map (·.1) = rs := fun rs h => by simp
set_option maxHeartbeats 1000000 in
theorem sort_any (v : Value) (rs : List RowC) (w : World) (base : Nat) (ho : OwnR 39 w base v rs) (hl : rs.length ≤ 1000000) :
    Calls Tryd.prog 35 #[v, .func (.func 36) #[] #[]] w fun e w' => e = .returned (.tuple #[]) ∧ ∃ rs', rs'.Perm rs ∧ rs'.Pairwise (fun a b => 0 ≤ Sh.cmpZ b.ids a.ids) ∧ RdR w' v rs' ∧ Gb v.ownBlock w w' v := by
  have hlt := ho.lt
  have ho' := ho
  rcases ho.1.2 with ⟨rfl, hn⟩ | ⟨g, cap, cur, rfl, hbg, hg, hnc, hcm, hcs, htake⟩
  · have hx : rs = [] := List.eq_nil_of_length_eq_zero hn
    subst hx
    exact (AnyF.slices_SortFunc_none Tryd.sortRow none 0 _ w).mono fun e w' hp => ⟨hp.1, [], List.Perm.refl _, List.Pairwise.nil, by rw [hp.2]; exact RdR.nil w, by rw [hp.2]; exact Gb.refl _ _⟩
  · have eg : ∀ args w, (callFunc 36 args).run Tryd.prog w = .ok (.enter 36 args) w := enters_of Tryd.func36 (by kernel_rfl) rfl
    obtain ⟨d, hd⟩ : ∃ d : Array RowOk, d = (rs.attachWith RowC.ok ho.2).toArray := ⟨_, rfl⟩
    have hds : d.size = rs.length := by rw [hd]; simp
    have hdv : d.toList.map (·.1) = rs := by rw [hd]; exact attach_val rs ho.2
    have hget : ∀ (d : Array RowOk) (rs : List RowC), d.toList.map (·.1) = rs → ∀ i, i < d.size → (d[i]!).1 = rowI rs i := fun d rs h i hi => by
      subst h
      rw [rowI_get (by simpa using hi), getElem!_pos d i hi]
      simp
    have hH : HoldsK encR 34 w g 0 d := fun t ht => by
      rw [size_flatK] at ht
      have h34 : t / 34 < d.size := by omega
      have hc := ho'.cell (i := t / 34) (j := t % 34) (by omega) (by omega)
      rw [show t / 34 * 34 + t % 34 = t by omega] at hc
      refine ⟨?_, by rw [Nat.zero_add]; exact hc.2⟩
      rw [Nat.zero_add, hc.1, get_flatK _ _ _ _ ht]
      unfold encR
      rw [hget d rs hdv _ h34]
      have hll : t % 34 < (rowI rs (t / 34)).l.length := by rw [RowC.len (rowI_ok ho.2 (by omega))]; omega
      rw [getElem!_pos (rowI rs (t / 34)).l _ hll, List.getElem?_eq_getElem hll]
      rfl
    have hcon := AnyQ.slices_SortFunc Tryd.sortRow 34 Tryd.isAgg39 Tryd.sizeOf39 encR (fun x => RowC.len x.2) (fun x u hu => RowC.ones x.1 u hu) cfR swoR 36 #[] g 0 cap d w eg (fun _ _ _ _ x y => closure_any x y _) hH (hlt g rfl).2 (by omega)
    rw [hds] at hcon
    refine Calls.mono hcon fun e w' hp => ?_
    obtain ⟨he, d', n, os, hperm, hsort, hw'⟩ := hp
    obtain ⟨hsz, -, hpm⟩ := hperm
    have hsz' : d'.size = rs.length := by rw [hsz, hds]
    have e1 : d'.extract 0 rs.length = d' := by rw [← hsz', Array.extract_size]
    have e2 : d.extract 0 rs.length = d := by rw [← hds, Array.extract_size]
    rw [e1, e2] at hpm
    refine ⟨he, d'.toList.map (·.1), ?_, ?_, ?_, ?_⟩
    · have := hpm.map (·.1)
      rwa [hdv] at this
    · rw [List.pairwise_map, List.pairwise_iff_getElem]
      intro i j hi hj hij
      have hs := hsort i j (Nat.zero_le _) hij (by rw [← hsz']; simpa using hj)
      have hi' : i < d'.size := by simpa using hi
      have hj' : j < d'.size := by simpa using hj
      rw [getElem!_pos d' i hi', getElem!_pos d' j hj'] at hs
      have := of_decide_eq_false hs
      simpa [cfR] using this
    · have hH2 := holdsK_putRowK encR 34 (Sort.ahead w n) g 0 d d' hH hsz
      refine ⟨some ⟨g, 0, none⟩, cap, by simp [hsz'], by simp [hsz']; exact hnc, hcm, (fun h => by cases h), ?_, fun h0 => ⟨g, 0, rfl, ?_, fun i hi j u hu => ?_⟩⟩
      · intro r hr
        obtain ⟨x, _, rfl⟩ := List.mem_map.1 hr
        exact x.2
      · rw [hw']
        have := (hlt g rfl).2
        simp [sortWorldK, putRowK, putRow, mapBlock, Sort.ahead]
        omega
      · have hi' : i < d'.size := by simpa using hi
        have hok : (rowI (d'.toList.map (·.1)) i).ok := by rw [← hget d' _ rfl i hi']; exact (d'[i]!).2
        have hj : j < 34 := by
          rcases Nat.lt_or_ge j 34 with h1 | h1
          · exact h1
          · rw [List.getElem?_eq_none (by rw [RowC.len hok]; exact h1)] at hu; cases hu
        have ht : i * 34 + j < (flatK encR 34 d').size := by rw [size_flatK]; omega
        have hc := (hH2 (i * 34 + j) ht).1
        rw [get_flatK _ _ _ _ (by rw [size_flatK] at ht; exact ht), show (i * 34 + j) / 34 = i by omega, show (i * 34 + j) % 34 = j by omega] at hc
        have hlg : g < (putRowK encR 34 (Sort.ahead w n) g 0 d').heap.size := by
          have := (hlt g rfl).2
          simp [putRowK, putRow, mapBlock, Sort.ahead]
          exact this
        have hcw : w'.cell? ⟨g, 0 + i * 34 + j, none⟩ = (putRowK encR 34 (Sort.ahead w n) g 0 d').cell? ⟨g, 0 + (i * 34 + j), none⟩ := by
          rw [hw', Nat.add_assoc]
          unfold sortWorldK
          exact World.cell?_of_block (by show (_ ++ os)[g]? = _; rw [Array.getElem?_append_left hlg])
        rw [hcw, hc]
        unfold encR
        rw [hget d' _ rfl i hi']
        have hll : j < (rowI (d'.toList.map (·.1)) i).l.length := by rw [RowC.len hok]; exact hj
        rw [getElem!_pos (rowI (d'.toList.map (·.1)) i).l _ hll]
        rw [List.getElem?_eq_getElem hll] at hu
        exact hu
    · rw [hw']
      refine ⟨rfl, rfl, rfl, by simp [sortWorldK, putRowK, putRow, mapBlock, Sort.ahead], fun k hk hne => ?_, Or.inl rfl⟩
      have hkg : g ≠ k := fun e => hne (by rw [e]; rfl)
      show ((w.heap.modify g _) ++ os)[k]? = _
      rw [Array.getElem?_append_left (by simpa using hk), Array.getElem?_modify, if_neg hkg]

open Go.RowKit Go.Sort

def insP (x : RowC) : List RowC → List RowC
  | [] => [x]
  | y :: l => if Sh.cmpZ y.ids x.ids < 0 then y :: insP x l else x :: y :: l
def sortF (rs : List RowC) : List RowC := rs.foldl (fun l x => insP x l) []
theorem insP_perm (x : RowC) : ∀ l, (insP x l).Perm (x :: l)
  | [] => List.Perm.refl _
  | y :: l => by
    unfold insP
    split
    · exact ((insP_perm x l).cons y).trans (List.Perm.swap x y l)
    · exact List.Perm.refl _
def Srt (l : List RowC) : Prop := l.Pairwise fun a b => Sh.cmpZ a.ids b.ids ≤ 0
theorem insP_sorted (x : RowC) : ∀ {l}, Srt l → Srt (insP x l)
  | [], _ => List.pairwise_singleton _ _
  | y :: l, h => by
    unfold insP
    have hy := List.pairwise_cons.1 h
    split
    · rename_i hlt
      refine List.pairwise_cons.2 ⟨fun z hz => ?_, insP_sorted x hy.2⟩
      rcases List.mem_cons.1 ((insP_perm x l).mem_iff.1 hz) with rfl | hz
      · omega
      · exact hy.1 z hz
    · rename_i hge
      refine List.pairwise_cons.2 ⟨fun z hz => ?_, h⟩
      have hxy : Sh.cmpZ x.ids y.ids ≤ 0 := by rw [cmpZ_flip]; omega
      rcases List.mem_cons.1 hz with rfl | hz
      · exact hxy
      · exact cmpZ_on _ _ _ hxy (hy.1 z hz)
theorem foldl_ins : ∀ (rs l : List RowC), Srt l → Srt (rs.foldl (fun l x => insP x l) l) ∧ (rs.foldl (fun l x => insP x l) l).Perm (rs ++ l)
  | [], l, h => ⟨h, List.Perm.refl _⟩
  | r :: rs, l, h => by
    have ih := foldl_ins rs (insP r l) (insP_sorted r h)
    refine ⟨ih.1, ih.2.trans ?_⟩
    have h1 : (rs ++ insP r l).Perm (rs ++ (r :: l)) := List.Perm.append_left rs (insP_perm r l)
    exact h1.trans (List.perm_middle)
theorem sortF_sorted (rs : List RowC) : Srt (sortF rs) := (foldl_ins rs [] List.Pairwise.nil).1
theorem sortF_perm (rs : List RowC) : (sortF rs).Perm rs := by
  have := (foldl_ins rs [] List.Pairwise.nil).2
  rwa [List.append_nil] at this
theorem rise_pair {l : List RowC} (h : Rise l) : l.Pairwise fun a b => Sh.cmpZ a.ids b.ids < 0 := by
  rw [List.pairwise_iff_getElem]
  intro i j hi hj hij
  obtain ⟨d, rfl⟩ : ∃ d, j = i + d + 1 := ⟨j - i - 1, by omega⟩
  induction d with
  | zero =>
    have := h i (by omega)
    rwa [rowI_get hi, rowI_get hj] at this
  | succ d ih =>
    have h1 := ih (by omega) (by omega)
    have h2 := h (i + d + 1) (by omega)
    rw [rowI_get (by omega), rowI_get (by omega)] at h2
    exact cmpZ_lt_trans h1 h2
/-- A sorted list rises just where no id stands twice. -/
theorem rise_nodup {l : List RowC} (h : Srt l) : Rise l ↔ (l.map RowC.ids).Nodup := by
  constructor
  · intro hr
    have := rise_pair hr
    rw [List.Nodup, List.pairwise_map]
    refine this.imp fun {a b} hab e => ?_
    rw [e, cmpZ_self] at hab
    omega
  · intro hn k hk
    rw [List.Nodup, List.pairwise_map, List.pairwise_iff_getElem] at hn
    have h1 := hn k (k + 1) (by omega) hk (by omega)
    have h2 := (List.pairwise_iff_getElem.1 h) k (k + 1) (by omega) hk (by omega)
    rw [rowI_get (by omega), rowI_get hk]
    rcases Int.lt_or_eq_of_le h2 with h3 | h3
    · exact h3
    · exact absurd (cmpZ_zero h3) h1
theorem sort_same {rs l : List RowC} (hp : l.Perm rs) (hs : Srt l) : riseB l = riseB (sortF rs) ∧ (riseB l = true → l = sortF rs) := by
  have hpp : l.Perm (sortF rs) := hp.trans (sortF_perm rs).symm
  have hb : riseB l = riseB (sortF rs) := by
    rw [Bool.eq_iff_iff, riseB_iff, riseB_iff, rise_nodup hs, rise_nodup (sortF_sorted rs)]
    exact (hpp.map RowC.ids).nodup_iff
  refine ⟨hb, fun hr => ?_⟩
  have hr1 := (riseB_iff l).1 hr
  have hnd := (rise_nodup hs).1 hr1
  refine List.Perm.eq_of_pairwise (le := fun (a b : RowC) => Sh.cmpZ a.ids b.ids ≤ 0) (fun a b ha hb hab hba => ?_) hs (sortF_sorted rs) hpp
  have hbl : b ∈ l := hpp.mem_iff.2 hb
  have he : a.ids = b.ids := cmpZ_zero (by rw [cmpZ_flip] at hba; omega)
  obtain ⟨i, hi, rfl⟩ := List.getElem_of_mem ha
  obtain ⟨j, hj, rfl⟩ := List.getElem_of_mem hbl
  rw [List.Nodup, List.pairwise_map, List.pairwise_iff_getElem] at hnd
  rcases Nat.lt_trichotomy i j with h | h | h
  · exact absurd he (hnd i j hi hj h)
  · subst h; rfl
  · exact absurd he.symm (hnd j i hj hi h)

def bldE (rs : List RowC) : Int := if 4096 < rs.length then 2 else if riseB (sortF rs) = true then 0 else 8
def bldL (rs : List RowC) (pk : List Int) : List Int := if bldE rs = 0 then buildL (sortF rs) (lngs (sortF rs)) pk else []
theorem RdR.far {w w' : World} {v : Value} {rs : List RowC} (h : RdR w v rs) (hz : w.heap.size ≤ w'.heap.size) (hb : ∀ b off n c, v = .slice (some ⟨b, off, none⟩) n c → b < w.heap.size → w'.heap[b]? = w.heap[b]?) : RdR w' v rs := by
  obtain ⟨a, c, h1, h2, h2', h3, h4, h5⟩ := h
  refine ⟨a, c, h1, h2, h2', h3, h4, fun h0 => ?_⟩
  obtain ⟨b, off, h6, h7, h8⟩ := h5 h0
  refine ⟨b, off, h6, Nat.lt_of_lt_of_le h7 hz, fun i hi j u hu => ?_⟩
  rw [World.cell?_of_block (w := w) (a := ⟨b, off + i * 34 + j, none⟩) (hb b off _ c (by rw [h1, h6]) h7)]
  exact h8 i hi j u hu
theorem Own.made (k : IntKind) (w : World) (xs : List Int) (e : TypeId) (hl : xs.length ≤ 1000000) : Own k e (w.alloc (.cells (cellsK k xs).toArray e)) w.heap.size (.slice (some ⟨w.heap.size, 0, none⟩) xs.length xs.length) xs :=
  ⟨by rw [cellsK_length, Nat.mul_one], .inr ⟨w.heap.size, xs.length, (cellsK k xs).toArray, rfl, Nat.le_refl _, heap_alloc_new w _, Nat.le_refl _, by unfold maxLen; omega, by rw [List.size_toArray, cellsK_length, Nat.mul_one], by rw [Nat.mul_one]; exact List.take_of_length_le (by rw [cellsK_length]; omega)⟩⟩
/-- An array of 32 bytes in a block of its own. -/
theorem box_id (w : World) (xs : List Int) : ∃ w1, w.alloc (.cells (cellsK .u8 xs).toArray 24) = w1 ∧ Below w.heap.size w w1 ∧ w1.heap.size = w.heap.size + 1 ∧ BlkK .u8 w1 w.heap.size 24 xs :=
  ⟨_, rfl, (Below.refl _ _).alloc (Nat.le_refl _) _, by simp, alloc_blkK .u8 w xs _⟩
theorem BlkK.rd {k : IntKind} {w : World} {b : Nat} {t : TypeId} {xs : List Int} (h : BlkK k w b t xs) (hl : xs.length ≤ 1000000) : Rd k anyB w (.slice (some ⟨b, 0, none⟩) xs.length xs.length) xs :=
  ⟨some ⟨b, 0, none⟩, xs.length, rfl, Nat.le_refl _, by unfold maxLen; omega, (fun h => by cases h), fun _ => ⟨b, 0, rfl, h.lt, trivial, fun i hi => by rw [Nat.zero_add]; exact h.cell i hi⟩⟩
theorem Gb.belowO {ob : Option Nat} {w w1 : World} {v1 : Value} {B : Nat} (h : Gb ob w w1 v1) (hB : B ≤ w.heap.size) (ho : ∀ k, ob = some k → B ≤ k) : Below B w w1 := h.below hB ho
theorem Tab.later {w w' : World} {ks : List Int} (h : Sh.Tab w ks) {B : Nat} (hb : Below B w w') (hB : w.heap.size ≤ B) : Sh.Tab w' ks := h.far hb (Nat.lt_of_lt_of_le h.1 hB)
end Go.Proofs.YtgoegmaepafopaaDoor
