/-
  The contracts of the landed cell's functions, together.
-/
import Derived.Test.YtkpapjdlpjjmbaaCellImplV
import Derived.Test.YtkpapjdlpjjmbaaCellImplR
import Derived.Test.YtkpapjdlpjjmbaaCellImplC
import Derived.Test.YtkpapjdlpjjmbaaCellImplG
import Derived.Test.YtkpapjdlpjjmbaaCellImplD
