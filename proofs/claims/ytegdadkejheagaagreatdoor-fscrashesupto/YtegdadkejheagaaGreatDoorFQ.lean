/-
  Walks: a map's keys in order.
-/
import Derived.Test.YtegdadkejheagaaGreatDoorFP
namespace Go.Proofs.YtegdadkejheagaaGreatDoor
open Go.RowKit Go.WideMaps Go.Maps Go.Sort Go.Shelf

/-- The texts that a map has, rising. -/
structure KeysOk (f : ByteArray → Option Value) (L : List ByteArray) : Prop where
  mem : ∀ p, p ∈ L ↔ f p ≠ none
  nodup : L.Nodup
  rise : L.Pairwise (fun a b => a.data.toList ≤ b.data.toList)
theorem mem_keys {w : World} {b n : Nat} {D : DV} (h : w.ownsMap Tryz.prog 9 heldR b n D) (x : List UInt8) : x ∈ strKeys D ↔ Maps.has D (.string x) = true := by
  obtain ⟨es, rfl, hk⟩ := h.keysOf
  rw [Maps.has_eq, List.any_eq_true]
  show x ∈ es.map (fun p => strOf p.1) ↔ _
  rw [List.mem_map]
  constructor
  · rintro ⟨p, hp, rfl⟩
    refine ⟨p, hp, ?_⟩
    obtain ⟨v, hv⟩ := hk p hp
    obtain ⟨y, -, hy, -⟩ := Maps.keyOf_str Tryz.underlying9 hv
    rw [hy]
    exact WideAt.sameKey_self (by rw [← hy]; exact keyed_str.key hv)
  · rintro ⟨p, hp, hs⟩
    exact ⟨p, hp, by rw [WideAt.sameKey_eq hs]; rfl⟩
theorem strKeys_len {w : World} {b n : Nat} {D : DV} (h : w.ownsMap Tryz.prog 9 heldR b n D) : (strKeys D).length = Maps.size D := by
  obtain ⟨es, rfl, -⟩ := h.keysOf
  show (es.map _).length = es.length
  simp
theorem nodup_keys {w : World} {b n : Nat} {D : DV} (h : w.ownsMap Tryz.prog 9 heldR b n D) (ht : Maps.Tidy D) : (strKeys D).Nodup := by
  obtain ⟨es, he, hp⟩ := ht
  obtain ⟨es', he', hk⟩ := h.keysOf
  rw [he] at he'
  injection he' with he'
  subst he'
  rw [he]
  show (es.map fun p => strOf p.1).Nodup
  refine List.pairwise_map.2 (hp.imp_of_mem fun {p q} hp' hq' hne e => hne ?_)
  obtain ⟨v, hv⟩ := hk p hp'
  obtain ⟨u, hu⟩ := hk q hq'
  obtain ⟨y, -, hy, -⟩ := Maps.keyOf_str Tryz.underlying9 hv
  obtain ⟨z, -, hz, -⟩ := Maps.keyOf_str Tryz.underlying9 hu
  rw [hy, hz] at e ⊢
  exact congrArg _ e
theorem keys_ok {w : World} {b n : Nat} {D : DV} {f : ByteArray → Option Value} (h : w.ownsMap Tryz.prog 9 heldR b n D) (hf : MapIs D f) {ss : List (List UInt8)} (hS : ss.Perm (strKeys D)) : KeysOk f ((ss.mergeSort (fun x y => decide (x ≤ y))).map fun l => (⟨l.toArray⟩ : ByteArray)) := by
  have hp : (ss.mergeSort (fun x y => decide (x ≤ y))).Perm (strKeys D) := (List.mergeSort_perm ss _).trans hS
  have tr : ∀ a b c : List UInt8, decide (a ≤ b) = true → decide (b ≤ c) = true → decide (a ≤ c) = true := fun a b c h1 h2 => by simp only [decide_eq_true_eq] at *; exact List.le_trans h1 h2
  have tot : ∀ a b : List UInt8, (decide (a ≤ b) || decide (b ≤ a)) = true := fun a b => by simp only [Bool.or_eq_true, decide_eq_true_eq]; exact List.le_total a b
  have hs := List.pairwise_mergeSort tr tot ss
  refine ⟨fun p => ?_, ?_, ?_⟩
  · rw [List.mem_map]
    constructor
    · rintro ⟨x, hx, rfl⟩ hn
      have h1 := (mem_keys h x).1 (hp.mem_iff.1 hx)
      have h2 := hf.no _ hn
      unfold kl at h2
      simp only at h2
      rw [h1] at h2
      cases h2
    · intro hn
      refine ⟨p.data.toList, hp.mem_iff.2 ((mem_keys h _).2 ?_), by simp⟩
      cases hx : f p with
      | none => exact absurd hx hn
      | some v => exact (hf.yes p v hx).1
  · refine List.pairwise_map.2 ((hp.nodup_iff.2 (nodup_keys h hf.tidy)).imp (fun {a b} hne e => hne ?_))
    have := congrArg (fun x : ByteArray => x.data.toList) e
    simpa using this
  · refine List.pairwise_map.2 (hs.imp (fun {a b} hab => ?_))
    simpa using hab
theorem keys_row {w : World} {base : Nat} {v : Value} {ss : List (List UInt8)} (h : w.ownsRow base 9 1 v ss.length ((ss.mergeSort (fun x y => decide (x ≤ y))).map encStr)) : w.ownsRow base 9 1 v ((ss.mergeSort (fun x y => decide (x ≤ y))).map fun l => (⟨l.toArray⟩ : ByteArray)).length (((ss.mergeSort (fun x y => decide (x ≤ y))).map fun l => (⟨l.toArray⟩ : ByteArray)).map Value.string) := by
  rw [List.length_map, (List.mergeSort_perm ss _).length_eq, List.map_map]
  exact h
theorem sorts_any (m : Nat) : AnyZ.SortsIn Tryz.prog Tryz.sortedS_ren Fence.wide m :=
  ⟨fun blk off cap ss W hH hblk hsz => callsIn_wide.2 (AnyM.slices_Sort_string Tryz.sortS blk off cap ss W hH hblk hsz),
   fun p cap W => callsIn_wide.2 (AnyM.slices_Sort_string_none Tryz.sortS p cap W)⟩
set_option maxRecDepth 100000 in
set_option maxHeartbeats 2000000 in
theorem keysF_any {w : World} {mb : Option Nat} {n : Nat} {f : ByteArray → Option Value} (h : MapAt w mb n f) (hn : n ≤ 1000000) :
    Calls Tryz.prog 26 #[.map mb] w fun e w' => ∃ v L, e = .returned v ∧ w'.ownsRow w.heap.size 9 1 v L.length (L.map Value.string) ∧ KeysOk f L ∧ L.length ≤ n ∧ Below w.heap.size w w' := by
  refine (callsIn_wide (n := 6)).1 ?_
  have hfK : Fence.wide.fn 54 := trivial
  have hfS : Fence.wide.fn 53 := trivial
  have hK := AnyZ.keys_in Tryz.keysF Fence.wide 5 trivial rfl mb w
  change CallsIn Fence.wide 5 Tryz.prog 54 #[.map mb] w (fun e w' => e = .returned (.func (.func 64) #[] #[.pointer (some ⟨w.heap.size, 0, none⟩)]) ∧ w' = w.alloc (.cells #[.map mb] 53)) at hK
  cases mb with
  | none =>
    have hseq : SeqGives Fence.wide 2 Tryz.prog 64 #[.pointer (some ⟨w.heap.size, 0, none⟩)] encStr (fun ss : List (List UInt8) => ss = []) 0 (w.alloc (.cells #[.map none] 53)) :=
      AnyZ.keys_gives_nil (ρ := Tryz.keysF_ren) { Tryz.keysF with } Fence.wide _ trivial rfl w.heap.size _ (by simp) (by simp)
    have hS := AnyZ.sorted_in Tryz.sortedS Fence.wide 5 trivial trivial trivial trivial rfl (by omega) (sorts_any _) (enters_of Tryz.func63 (by kernel_rfl) rfl) 64 #[.pointer (some ⟨w.heap.size, 0, none⟩)] trivial (enters_of Tryz.func64 (by kernel_rfl) rfl) _ 0 (Nat.zero_le _) (by omega) _ hseq
    change CallsIn Fence.wide 5 Tryz.prog 53 #[.func (.func 64) #[] #[.pointer (some ⟨w.heap.size, 0, none⟩)]] (w.alloc (.cells #[.map none] 53)) _ at hS
    refine callsIn_of_wp Tryz.func26 rfl trivial ?_ rfl
    simp only [Tryz.ntmps26, List.size_toArray, List.length_cons, List.length_nil, Nat.reduceAdd, Nat.reduceSub, Array.replicate_succ, Array.replicate_zero, List.push_toArray, List.append_toArray, List.nil_append, List.cons_append]
    gi_wp2_with (first
      | (gi_at_call 54; refine hK.mono ?_; rintro e w' ⟨rfl, rfl⟩)
      | (gi_at_call 53; refine hS.mono ?_; rintro e w' ⟨v, ss, rfl, hs, hrow, hnil, hb⟩))
    go_ret
    subst hs
    refine ⟨v, [], rfl, ?_, ⟨fun p => ⟨(fun h => by cases h), fun hp => absurd (h p) hp⟩, List.nodup_nil, List.Pairwise.nil⟩, Nat.zero_le _, ((Below.refl _ w).alloc (Nat.le_refl _) _).trans (hb.mono (by simp))⟩
    have h0 : (List.mergeSort ([] : List (List UInt8)) (fun x y => decide (x ≤ y))) = [] := (List.mergeSort_perm [] _).eq_nil
    have h1 := ownsRow_base_a (base' := w.heap.size) (keys_row hrow) (by simp)
    rw [h0] at h1
    exact h1
  | some b =>
    obtain ⟨D, hown, hf⟩ := h
    have hsz := hown.size_le
    have hbl := hown.lt
    have hseq : SeqGives Fence.wide 2 Tryz.prog 64 #[.pointer (some ⟨w.heap.size, 0, none⟩)] encStr (fun ss => ss.Perm (strKeys D)) (Maps.size D) (w.alloc (.cells #[.map (some b)] 53)) :=
      AnyZ.keys_gives (ρ := Tryz.keysF_ren) { Tryz.keysF with } Fence.wide _ trivial rfl (by omega) w.heap.size b n D _ (by simp) (by simp) (by
        obtain ⟨es, clock, hb, Ft, hs, hD⟩ := hown
        exact ⟨es, clock, (Below.heap_alloc _ _ b hbl).trans hb, Ft, hs, hD⟩)
    have hS := AnyZ.sorted_in Tryz.sortedS Fence.wide 5 trivial trivial trivial trivial rfl (by omega) (sorts_any _) (enters_of Tryz.func63 (by kernel_rfl) rfl) 64 #[.pointer (some ⟨w.heap.size, 0, none⟩)] trivial (enters_of Tryz.func64 (by kernel_rfl) rfl) _ (Maps.size D) (by unfold maxLen; omega) (by omega) _ hseq
    change CallsIn Fence.wide 5 Tryz.prog 53 #[.func (.func 64) #[] #[.pointer (some ⟨w.heap.size, 0, none⟩)]] (w.alloc (.cells #[.map (some b)] 53)) _ at hS
    refine callsIn_of_wp Tryz.func26 rfl trivial ?_ rfl
    simp only [Tryz.ntmps26, List.size_toArray, List.length_cons, List.length_nil, Nat.reduceAdd, Nat.reduceSub, Array.replicate_succ, Array.replicate_zero, List.push_toArray, List.append_toArray, List.nil_append, List.cons_append]
    gi_wp2_with (first
      | (gi_at_call 54; refine hK.mono ?_; rintro e w' ⟨rfl, rfl⟩)
      | (gi_at_call 53; refine hS.mono ?_; rintro e w' ⟨v, ss, rfl, hs, hrow, hnil, hb⟩))
    go_ret
    exact ⟨v, _, rfl, ownsRow_base_a (keys_row hrow) (by simp), keys_ok hown hf hs, (by rw [List.length_map, (List.mergeSort_perm _ _).length_eq, hs.length_eq, strKeys_len hown]; exact hsz), ((Below.refl _ w).alloc (Nat.le_refl _) _).trans (hb.mono (by simp))⟩
set_option maxRecDepth 100000 in
set_option maxHeartbeats 2000000 in
theorem keysP_any {w : World} {mb : Option Nat} {n : Nat} {f : ByteArray → Option Value} (h : MapAt w mb n f) (hn : n ≤ 1000000) :
    Calls Tryz.prog 52 #[.map mb] w fun e w' => ∃ v L, e = .returned v ∧ w'.ownsRow w.heap.size 9 1 v L.length (L.map Value.string) ∧ KeysOk f L ∧ L.length ≤ n ∧ Below w.heap.size w w' := by
  refine (callsIn_wide (n := 6)).1 ?_
  have hfK : Fence.wide.fn 61 := trivial
  have hfS : Fence.wide.fn 53 := trivial
  have hK := AnyZ.keys_in Tryz.keysP Fence.wide 5 trivial rfl mb w
  change CallsIn Fence.wide 5 Tryz.prog 61 #[.map mb] w (fun e w' => e = .returned (.func (.func 69) #[] #[.pointer (some ⟨w.heap.size, 0, none⟩)]) ∧ w' = w.alloc (.cells #[.map mb] 54)) at hK
  cases mb with
  | none =>
    have hseq : SeqGives Fence.wide 2 Tryz.prog 69 #[.pointer (some ⟨w.heap.size, 0, none⟩)] encStr (fun ss : List (List UInt8) => ss = []) 0 (w.alloc (.cells #[.map none] 54)) :=
      AnyZ.keys_gives_nil (ρ := Tryz.keysP_ren) { Tryz.keysP with } Fence.wide _ trivial rfl w.heap.size _ (by simp) (by simp)
    have hS := AnyZ.sorted_in Tryz.sortedS Fence.wide 5 trivial trivial trivial trivial rfl (by omega) (sorts_any _) (enters_of Tryz.func63 (by kernel_rfl) rfl) 69 #[.pointer (some ⟨w.heap.size, 0, none⟩)] trivial (enters_of Tryz.func69 (by kernel_rfl) rfl) _ 0 (Nat.zero_le _) (by omega) _ hseq
    change CallsIn Fence.wide 5 Tryz.prog 53 #[.func (.func 69) #[] #[.pointer (some ⟨w.heap.size, 0, none⟩)]] (w.alloc (.cells #[.map none] 54)) _ at hS
    refine callsIn_of_wp Tryz.func52 rfl trivial ?_ rfl
    simp only [Tryz.ntmps52, List.size_toArray, List.length_cons, List.length_nil, Nat.reduceAdd, Nat.reduceSub, Array.replicate_succ, Array.replicate_zero, List.push_toArray, List.append_toArray, List.nil_append, List.cons_append]
    gi_wp2_with (first
      | (gi_at_call 61; refine hK.mono ?_; rintro e w' ⟨rfl, rfl⟩)
      | (gi_at_call 53; refine hS.mono ?_; rintro e w' ⟨v, ss, rfl, hs, hrow, hnil, hb⟩))
    go_ret
    subst hs
    refine ⟨v, [], rfl, ?_, ⟨fun p => ⟨(fun h => by cases h), fun hp => absurd (h p) hp⟩, List.nodup_nil, List.Pairwise.nil⟩, Nat.zero_le _, ((Below.refl _ w).alloc (Nat.le_refl _) _).trans (hb.mono (by simp))⟩
    have h0 : (List.mergeSort ([] : List (List UInt8)) (fun x y => decide (x ≤ y))) = [] := (List.mergeSort_perm [] _).eq_nil
    have h1 := ownsRow_base_a (base' := w.heap.size) (keys_row hrow) (by simp)
    rw [h0] at h1
    exact h1
  | some b =>
    obtain ⟨D, hown, hf⟩ := h
    have hsz := hown.size_le
    have hbl := hown.lt
    have hseq : SeqGives Fence.wide 2 Tryz.prog 69 #[.pointer (some ⟨w.heap.size, 0, none⟩)] encStr (fun ss => ss.Perm (strKeys D)) (Maps.size D) (w.alloc (.cells #[.map (some b)] 54)) :=
      AnyZ.keys_gives (ρ := Tryz.keysP_ren) { Tryz.keysP with } Fence.wide _ trivial rfl (by omega) w.heap.size b n D _ (by simp) (by simp) (by
        obtain ⟨es, clock, hb, Ft, hs, hD⟩ := hown
        exact ⟨es, clock, (Below.heap_alloc _ _ b hbl).trans hb, Ft, hs, hD⟩)
    have hS := AnyZ.sorted_in Tryz.sortedS Fence.wide 5 trivial trivial trivial trivial rfl (by omega) (sorts_any _) (enters_of Tryz.func63 (by kernel_rfl) rfl) 69 #[.pointer (some ⟨w.heap.size, 0, none⟩)] trivial (enters_of Tryz.func69 (by kernel_rfl) rfl) _ (Maps.size D) (by unfold maxLen; omega) (by omega) _ hseq
    change CallsIn Fence.wide 5 Tryz.prog 53 #[.func (.func 69) #[] #[.pointer (some ⟨w.heap.size, 0, none⟩)]] (w.alloc (.cells #[.map (some b)] 54)) _ at hS
    refine callsIn_of_wp Tryz.func52 rfl trivial ?_ rfl
    simp only [Tryz.ntmps52, List.size_toArray, List.length_cons, List.length_nil, Nat.reduceAdd, Nat.reduceSub, Array.replicate_succ, Array.replicate_zero, List.push_toArray, List.append_toArray, List.nil_append, List.cons_append]
    gi_wp2_with (first
      | (gi_at_call 61; refine hK.mono ?_; rintro e w' ⟨rfl, rfl⟩)
      | (gi_at_call 53; refine hS.mono ?_; rintro e w' ⟨v, ss, rfl, hs, hrow, hnil, hb⟩))
    go_ret
    exact ⟨v, _, rfl, ownsRow_base_a (keys_row hrow) (by simp), keys_ok hown hf hs, (by rw [List.length_map, (List.mergeSort_perm _ _).length_eq, hs.length_eq, strKeys_len hown]; exact hsz), ((Below.refl _ w).alloc (Nat.le_refl _) _).trans (hb.mono (by simp))⟩
end Go.Proofs.YtegdadkejheagaaGreatDoor
