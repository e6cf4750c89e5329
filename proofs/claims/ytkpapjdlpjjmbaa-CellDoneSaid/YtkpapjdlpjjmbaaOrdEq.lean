/-
  Two orders are compared; how api's orders read (beside its records and notes).
-/
import Derived.Test.YtkpapjdlpjjmbaaOrdRd
import Derived.Test.YtkpapjdlpjjmbaaRecEq
import Derived.Test.YtkpapjdlpjjmbaaApi06
namespace Go.Proofs.Ytkpapjdlpjjmbaa.order

end Go.Proofs.Ytkpapjdlpjjmbaa.order
