/- Walks: slices.EqualFunc over two lists of transactions, SameList. -/
import Derived.Test.YtioldhhnkeakcaaDoorTxC
namespace Go.Proofs.YtioldhhnkeakcaaDoor
open Go.RowKit

end Go.Proofs.YtioldhhnkeakcaaDoor
