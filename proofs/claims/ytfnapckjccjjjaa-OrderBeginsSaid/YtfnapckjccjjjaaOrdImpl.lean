/-
  The contracts of package order's functions, all.
-/
import Derived.Test.YtfnapckjccjjjaaOrdImpl4
import Derived.Test.YtfnapckjccjjjaaOrdImpl5
namespace Go.Proofs.Ytfnapckjccjjjaa.order

end Go.Proofs.Ytfnapckjccjjjaa.order
