/-
  SortFunc over slots of the call's own.
-/
import Derived.Test.YthkaohkondkhgaaDoorIO6
import Derived.Test.YthkaohkondkhgaaDoorShelfS
import Derived.Shelf.SlSortCmp.NoneTotal
namespace Go.Proofs.YthkaohkondkhgaaDoor
open Go.RowKit Go.Sort Go.Shelf

theorem zI_ok {rs : List SlC} (h : ∀ r ∈ rs, r.ok) {i : Nat} (hi : i < rs.length) : (zI rs i).ok := by
  rw [zI_get hi]
  exact h _ (List.getElem_mem hi)
theorem OwnZ.cell {w : World} {base : Nat} {rs : List SlC} {g n c : Nat} (h : OwnZ w base (.slice (some ⟨g, 0, none⟩) n c) rs) {i j : Nat} (hi : i < rs.length) (hj : j < 37) : w.cell? ⟨g, i * 37 + j, none⟩ = (zI rs i).l[j]? ∧ w.frozen? ⟨g, i * 37 + j, none⟩ = false := by
  have hg := zflat_get h.2 hi hj
  have hl : j < (zI rs i).l.length := by rw [SlC.len (zI_ok h.2 hi)]; exact hj
  constructor
  · have := World.ownsRow.cells h.1 (g := g) rfl (i * 37 + j) ((zI rs i).l[j]) (by rw [hg, List.getElem?_eq_getElem hl])
    rw [add_plain, Nat.zero_add] at this
    rw [this, List.getElem?_eq_getElem hl]
  · rcases h.1.2 with ⟨h1, _⟩ | ⟨g', cap, cur, h1, hbg, hh, _⟩
    · simp at h1
    · simp at h1
      obtain ⟨rfl, -, -⟩ := h1
      simp [World.frozen?, hh]
theorem orderF (x y : SlOk) (w : World) : Calls Tryd.prog 38 #[.agg (encZ x).toArray, .agg (encZ y).toArray] w fun e w' => e = .returned (.int .i64 (cfZ x y)) ∧ ∃ q os', w' = grow (w.drewN q) os' := order_exact x.2 y.2 w
theorem attach_valZ : ∀ (rs : List SlC) (h : ∀ r ∈ rs, r.ok), (rs.attachWith SlC.ok h).map (·.1) = rs := fun rs h => by simp
set_option maxHeartbeats 1000000 in
theorem sortZ_any (v : Value) (rs : List SlC) (w : World) (base : Nat) (ho : OwnZ w base v rs) (hl : rs.length ≤ 1000000) :
    Calls Tryd.prog 37 #[v, .func (.func 38) #[] #[]] w fun e w' => e = .returned (.tuple #[]) ∧ ∃ rs', rs'.Perm rs ∧ rs'.Pairwise (fun a b => ¬ ordZ b a < 0) ∧ RdZ w' v rs' ∧ Gb v.ownBlock w w' v := by
  have hlt := ho.lt
  have ho' := ho
  rcases ho.1.2 with ⟨rfl, hn⟩ | ⟨g, cap, cur, rfl, hbg, hg, hnc, hcm, hcs, htake⟩
  · have hx : rs = [] := List.eq_nil_of_length_eq_zero hn
    subst hx
    exact (AnyF.slices_SortFunc_none Tryd.sortRow none 0 _ w).mono fun e w' hp => ⟨hp.1, [], List.Perm.refl _, List.Pairwise.nil, by rw [hp.2]; exact RdZ.nil w, by rw [hp.2]; exact Gb.refl _ _⟩
  · have eg : ∀ args w, (callFunc 38 args).run Tryd.prog w = .ok (.enter 38 args) w := enters_of Tryd.func38 (by kernel_rfl) rfl
    obtain ⟨d, hd⟩ : ∃ d : Array SlOk, d = (rs.attachWith SlC.ok ho.2).toArray := ⟨_, rfl⟩
    have hds : d.size = rs.length := by rw [hd]; simp
    have hdv : d.toList.map (·.1) = rs := by rw [hd]; exact attach_valZ rs ho.2
    have hget : ∀ (d : Array SlOk) (rs : List SlC), d.toList.map (·.1) = rs → ∀ i, i < d.size → (d[i]!).1 = zI rs i := fun d rs h i hi => by
      subst h
      rw [zI_get (by simpa using hi), getElem!_pos d i hi]
      simp
    have hH : HoldsK encZ 37 w g 0 d := fun t ht => by
      rw [size_flatK] at ht
      have h37 : t / 37 < d.size := by omega
      have hc := ho'.cell (i := t / 37) (j := t % 37) (by omega) (by omega)
      rw [show t / 37 * 37 + t % 37 = t by omega] at hc
      refine ⟨?_, by rw [Nat.zero_add]; exact hc.2⟩
      rw [Nat.zero_add, hc.1, get_flatK _ _ _ _ ht]
      unfold encZ
      rw [hget d rs hdv _ h37]
      have hll : t % 37 < (zI rs (t / 37)).l.length := by rw [SlC.len (zI_ok ho.2 (by omega))]; omega
      rw [getElem!_pos (zI rs (t / 37)).l _ hll, List.getElem?_eq_getElem hll]
      rfl
    have hcon := AnyQ.slices_SortFunc Tryd.sortRow 37 Tryd.isAgg41 Tryd.sizeOf41 encZ (fun x => SlC.len x.2) (fun x u hu => SlC.ones x.1 u hu) cfZ swoZ 38 #[] g 0 cap d w eg (fun _ _ _ _ x y => orderF x y _) hH (hlt g rfl).2 (by omega)
    rw [hds] at hcon
    refine Calls.mono hcon fun e w' hp => ?_
    obtain ⟨he, d', n, os, hperm, hsort, hw'⟩ := hp
    obtain ⟨hsz, -, hpm⟩ := hperm
    have hsz' : d'.size = rs.length := by rw [hsz, hds]
    have e1 : d'.extract 0 rs.length = d' := by rw [← hsz', Array.extract_size]
    have e2 : d.extract 0 rs.length = d := by rw [← hds, Array.extract_size]
    rw [e1, e2] at hpm
    refine ⟨he, d'.toList.map (·.1), ?_, ?_, ?_, ?_⟩
    · have := hpm.map (·.1)
      rwa [hdv] at this
    · rw [List.pairwise_map, List.pairwise_iff_getElem]
      intro i j hi hj hij
      have hs := hsort i j (Nat.zero_le _) hij (by rw [← hsz']; simpa using hj)
      have hi' : i < d'.size := by simpa using hi
      have hj' : j < d'.size := by simpa using hj
      rw [getElem!_pos d' i hi', getElem!_pos d' j hj'] at hs
      have := of_decide_eq_false hs
      simpa [cfZ] using this
    · have hH2 := holdsK_putRowK encZ 37 (Sort.ahead w n) g 0 d d' hH hsz
      refine ⟨some ⟨g, 0, none⟩, cap, by simp [hsz'], by simp [hsz']; exact hnc, ?_, fun h0 => ⟨g, 0, rfl, ?_, fun i hi j u hu => ?_⟩⟩
      · intro r hr
        obtain ⟨x, _, rfl⟩ := List.mem_map.1 hr
        exact x.2
      · rw [hw']
        have := (hlt g rfl).2
        simp [sortWorldK, putRowK, putRow, mapBlock, Sort.ahead]
        omega
      · have hi' : i < d'.size := by simpa using hi
        rw [← zI_get hi] at hu
        have hok : (zI (d'.toList.map (·.1)) i).ok := by rw [← hget d' _ rfl i hi']; exact (d'[i]!).2
        have hj : j < 37 := by
          rcases Nat.lt_or_ge j 37 with h1 | h1
          · exact h1
          · rw [List.getElem?_eq_none (by rw [SlC.len hok]; exact h1)] at hu; cases hu
        have ht : i * 37 + j < (flatK encZ 37 d').size := by rw [size_flatK]; omega
        have hc := (hH2 (i * 37 + j) ht).1
        rw [get_flatK _ _ _ _ (by rw [size_flatK] at ht; exact ht), show (i * 37 + j) / 37 = i by omega, show (i * 37 + j) % 37 = j by omega] at hc
        have hlg : g < (putRowK encZ 37 (Sort.ahead w n) g 0 d').heap.size := by
          have := (hlt g rfl).2
          simp [putRowK, putRow, mapBlock, Sort.ahead]
          exact this
        have hcw : w'.cell? ⟨g, 0 + i * 37 + j, none⟩ = (putRowK encZ 37 (Sort.ahead w n) g 0 d').cell? ⟨g, 0 + (i * 37 + j), none⟩ := by
          rw [hw', Nat.add_assoc]
          unfold sortWorldK
          exact World.cell?_of_block (by show (_ ++ os)[g]? = _; rw [Array.getElem?_append_left hlg])
        rw [hcw, hc]
        unfold encZ
        rw [hget d' _ rfl i hi']
        have hll : j < (zI (d'.toList.map (·.1)) i).l.length := by rw [SlC.len hok]; exact hj
        rw [getElem!_pos (zI (d'.toList.map (·.1)) i).l _ hll]
        rw [List.getElem?_eq_getElem hll] at hu
        exact hu
    · rw [hw']
      refine ⟨rfl, rfl, rfl, by simp [sortWorldK, putRowK, putRow, mapBlock, Sort.ahead], fun k hk hne => ?_, Or.inl rfl⟩
      have hkg : g ≠ k := fun e => hne (by rw [e]; rfl)
      show ((w.heap.modify g _) ++ os)[k]? = _
      rw [Array.getElem?_append_left (by simpa using hk), Array.getElem?_modify, if_neg hkg]
end Go.Proofs.YthkaohkondkhgaaDoor
