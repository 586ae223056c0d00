/-
  Cells that are held (Hg), beside the laws' helpers (Te).
-/
import Derived.Test.YtjpiihjgbllieaaDoorTe
import Derived.Test.YtjpiihjgbllieaaDoorHg
namespace Go.Proofs.YtjpiihjgbllieaaDoor.num
end Go.Proofs.YtjpiihjgbllieaaDoor.num
