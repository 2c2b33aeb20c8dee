/-
  The document's reader: lengths.
-/
import Derived.Test.YtjifhhafllegbaaDoorD15B
import Derived.Test.YtjifhhafllegbaaDoorD15D
import Derived.Test.YtjifhhafllegbaaDoorD15E
namespace Go.Proofs.YtjifhhafllegbaaDoor
open Go.RowKit

theorem dlengths_any {W0 w : World} {rb : Nat} {ob : Option Nat} {inV : Value} {p out : List Int} {most t : Nat} (h : Bts W0 w rb ob inV p most out t 0) :
    Calls Tryd.prog 24 #[.pointer (some ⟨rb, 0, none⟩)] w fun e w' => AfterLD W0 w w' rb ob inV p most out (tlF p t) e :=
  (dlA W0 w rb ob inV p out most t (tlF p t)).2.2 h (Or.inl ⟨rfl, rfl⟩) (dlB1 W0 w rb ob inV p out most t (tlF p t)) ((dlC W0 w rb ob inV p out most t (tlF p t)).2.2 (dlD W0 w rb ob inV p out most t (tlF p t)) (dlE W0 w rb ob inV p out most t (tlF p t)))
end Go.Proofs.YtjifhhafllegbaaDoor
