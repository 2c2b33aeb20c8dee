/-
  Walks: the document's big, constants.
-/
import Derived.Test.YtldnjgkpdlchaaaGreatDoorShA
namespace Go.Proofs.YtldnjgkpdlchaaaGreatDoor.Sh
open Go.RowKit

end Go.Proofs.YtldnjgkpdlchaaaGreatDoor.Sh
