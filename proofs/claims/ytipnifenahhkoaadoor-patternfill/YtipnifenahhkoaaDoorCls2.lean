/- Conjunct, Word, Width of the code. -/
import Derived.Test.YtipnifenahhkoaaDoorCls
namespace Go.Proofs.YtipnifenahhkoaaDoor
open Go.RowKit
end Go.Proofs.YtipnifenahhkoaaDoor
