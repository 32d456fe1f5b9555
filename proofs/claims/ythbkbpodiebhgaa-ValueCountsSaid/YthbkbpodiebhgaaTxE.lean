/- Walks: slices.EqualFunc over two lists of transactions, SameList. -/
import Derived.Test.YthbkbpodiebhgaaTxC
namespace Go.Proofs.Ythbkbpodiebhgaa
open Go.RowKit

end Go.Proofs.Ythbkbpodiebhgaa
