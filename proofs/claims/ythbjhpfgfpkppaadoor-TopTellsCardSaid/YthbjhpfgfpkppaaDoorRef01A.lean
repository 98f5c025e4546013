/-
  The reference's calls of layer 1 (mandolineref01), each by a contract: the same plain functions as span's.
-/
import Derived.WalkSmall
import Derived.Test.YthbjhpfgfpkppaaDoorSpanB
import Derived.Test.YthbjhpfgfpkppaaDoorSpanC
namespace Go.Proofs.YthbjhpfgfpkppaaDoor
open Go Go.RowKit
end Go.Proofs.YthbjhpfgfpkppaaDoor
