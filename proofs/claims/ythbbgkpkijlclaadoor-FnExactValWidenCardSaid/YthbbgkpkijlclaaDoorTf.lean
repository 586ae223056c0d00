/-
  Cells that are held (Hg), beside the laws' helpers (Te).
-/
import Derived.Test.YthbbgkpkijlclaaDoorTe
import Derived.Test.YthbbgkpkijlclaaDoorHg
namespace Go.Proofs.YthbbgkpkijlclaaDoor.num
end Go.Proofs.YthbbgkpkijlclaaDoor.num
