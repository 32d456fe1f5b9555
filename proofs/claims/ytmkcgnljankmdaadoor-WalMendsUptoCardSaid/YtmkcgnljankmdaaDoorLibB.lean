/- The library's Builder and Clone, by the shelf's contracts (proved once, over any program), at this program's numbers. -/
import Derived.Test.YtmkcgnljankmdaaDoorChecked
import Derived.Shelf.Strings.Builder1
import Derived.Shelf.Strings.Builder2
import Derived.Shelf.Strings.BuilderF
import Derived.Shelf.LaysM
import Derived.Test.YtmkcgnljankmdaaDoorLibC
namespace Go.Proofs.YtmkcgnljankmdaaDoor
open Go.Shelf Go.RowKit
end Go.Proofs.YtmkcgnljankmdaaDoor
