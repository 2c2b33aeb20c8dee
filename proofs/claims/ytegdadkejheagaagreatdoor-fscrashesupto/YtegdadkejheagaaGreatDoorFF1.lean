/-
  The law FsFixed.
-/
import Derived.Test.YtegdadkejheagaaGreatDoorFDS
namespace Go.Proofs.YtegdadkejheagaaGreatDoor
open Go.RowKit Go.WideMaps Go.Maps

/-- What is read lies in its own block. -/
theorem rd_at {q : IntKind} {S S' : Nat → Prop} {w : World} {g off n c : Nat} {xs : List Int} (h : Rd q S w (.slice (some ⟨g, off, none⟩) n c) xs) (hg : S' g) : Rd q S' w (.slice (some ⟨g, off, none⟩) n c) xs := by
  obtain ⟨a, c', hv, h1, h2, h3, h4⟩ := h
  refine ⟨a, c', hv, h1, h2, h3, fun h0 => ?_⟩
  obtain ⟨b, o, ha, hl, hs, hc⟩ := h4 h0
  subst ha
  injection hv with e1 _ _
  injection e1 with e1
  injection e1 with e1 _ _
  subst e1
  exact ⟨_, o, rfl, hl, hg, hc⟩
def pB : ByteArray := ⟨#[98]⟩
def pSS : ByteArray := ⟨#[47, 47]⟩
end Go.Proofs.YtegdadkejheagaaGreatDoor
