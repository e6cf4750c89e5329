/-
  RecRef
-/
import Derived.Test.YtcpahggkioagkaaMvf39
import Derived.Test.YtcpahggkioagkaaMvf40
import Derived.Test.YtcpahggkioagkaaMvf41
set_option linter.unusedVariables false
set_option linter.unusedSimpArgs false
namespace Go.Proofs.Ytcpahggkioagkaa.rec
open Go.RowKit Go.Proofs.Ytcpahggkioagkaa
set_option maxRecDepth 20000
set_option maxHeartbeats 1000000
theorem rright_is (k o a y d q p l s n:Int) (on:Bool) (z t:Int) {b:Bool} (hf:(⟨k,o,a,y,d,q,p,l,s,n,on,z,t⟩:Rc).fine) (h:right ⟨k,o,a,y,d,q,p,l,s,n,on,z,t⟩=b) (w:World):Calls Try.prog 30 #[.agg #[.int .i64 k,.int .i64 o,.int .i64 a,.int .i64 y,.int .i64 d,.int .i64 q,.int .i64 p,.int .i64 l,.int .i64 s,.int .i64 n,.bool on,.int .i64 z,.int .i64 t]] w fun e w'=>e = .returned (.bool b)∧Below w.heap.size w w':=by
 by_cases h1:k=1
 ·subst h1;exact rright_1 o a y d q p l s n z t on hf h w
 by_cases h2:k=2
 ·subst h2;exact rright_2 o a y d q p l s n z t on hf h w
 by_cases h3:k=3
 ·subst h3;exact rright_3 o a y d q p l s n z t on hf h w
 by_cases h4:k=4
 ·subst h4
  by_cases hy:y = -1
  ·subst hy
   by_cases hl:l=0
   ·subst hl
    by_cases hs:s=0
    ·subst hs;exact rright_4z o a d q p n z t on hf h w
    ·exact rright_4s o a d q p s n z t on (by simpa using hs) hf h w
   ·exact rright_4l o a d q p l s n z t on (by simpa using hl) hf h w
  ·exact rright_4y o a y d q p l s n z t on (by simpa using hy) hf h w
 by_cases h5:k=5
 ·subst h5;exact rright_5 o a y d q p l s n z t on hf h w
 by_cases h6:k=6
 ·subst h6
  by_cases t3:t=3
  ·subst t3;exact rright_63 o a y d q p l s n z on hf h w
  by_cases t5:t=5
  ·subst t5;exact rright_65 o a y d q p l s n z on hf h w
  ·exact rright_6t o a y d q p l s n z t on (by simpa using t3) (by simpa using t5) hf h w
 exact rright_0 k o a y d q p l s n z t on (by simpa using h1) (by simpa using h2) (by simpa using h3) (by simpa using h4) (by simpa using h5) (by simpa using h6) hf h w
end Go.Proofs.Ytcpahggkioagkaa.rec
