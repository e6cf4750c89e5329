/-
  ScanRefS, ScanLaw
-/
import Derived.Test.YtalhdalinpdanaaGreatDoorMwl24
import Derived.Test.YtalhdalinpdanaaGreatDoorMwl32
import Derived.Deep.DeepCutAuto
import Derived.Deep.DrawnRows
import Derived.Deep.RegionLaw
import Derived.BigRegion
set_option linter.unusedVariables false
set_option linter.unusedSimpArgs false
section
namespace Go.Proofs.YtalhdalinpdanaaGreatDoor.scan
set_option maxRecDepth 20000
open Go.RowKit Go.Proofs.YtalhdalinpdanaaGreatDoor Go.Proofs.YtalhdalinpdanaaGreatDoor.frame
attribute [local go_sem] undef
attribute [local go_sem ↓] Go.wp_at_zero Go.wp_at_succ
end Go.Proofs.YtalhdalinpdanaaGreatDoor.scan
end
section
namespace Go.Proofs.YtalhdalinpdanaaGreatDoor.scan
set_option maxRecDepth 20000
open Go.RowKit Go.Proofs.YtalhdalinpdanaaGreatDoor Go.Proofs.YtalhdalinpdanaaGreatDoor.frame
theorem row_right {l:List Fr} {n e:Int} (h:row l n e=true):allRight l=true:=by
 induction l generalizing n e with
 |nil=>rfl
 |cons f l ih =>
  obtain ⟨h1,_,_,h4⟩:=(row_cons _ _ _ _).1 h
  have:=ih h4
  unfold allRight at this ⊢
  simp [h1,this]
section
variable {A:Option Addr} {m c B:Nat} {l:List Fr}
theorem put_of (W:World) (hx:Frs W B A l) (hB:B≤W.heap.size) (hm:l.length=m) (hmax:m≤100) (hr:allRight l=true) {N:Nat} (hN:72 * m=N) :
  Calls Tryz.prog 67 #[.slice A m c] W fun e w' => ∃ A' c',e = .returned (.tuple #[.slice A' N c',.int .i64 0])∧OwnBys w' W.heap.size 5 A' N c' (put l)∧Below W.heap.size W w':=by
 refine (put_yes A m c l W (hx.more hB) hm hmax hr).mono ?_
 rintro e w' ⟨A',c',rfl,h1,h2⟩
 rw [hm,hN] at h1 ⊢
 exact ⟨A',c',rfl,h1,h2⟩
theorem row_of (W:World) (hx:Frs W B A l) (hB:B≤W.heap.size) (hm:l.length=m) (hmax:m≤100000) {n e:Int} {r:Bool} (hr:row l n e=r) :
  Calls Tryz.prog 61 #[.slice A m c,.int .i64 n,.int .i64 e] W fun e w'=>e = .returned (.bool r)∧Below W.heap.size W w':=by rw [← hr];exact row_any A m c l n e W (hx.more hB) hm (by omega)
theorem scan_of {bs:List Nat} (W:World) (hx:Bys W B A bs) (hB:B≤W.heap.size) (hm:bs.length=m) (hc:m≤c) (hcm:c≤9223372036854775807) (hmax:m≤100000) {n e:Int} {l:List Fr} {k:Nat} (hl:all bs n e=l) (hk:l.length=k) :
  Calls Tryz.prog 92 #[.slice A m c,.int .i64 n,.int .i64 e] W fun e w' => ∃ A' c',e = .returned (.tuple #[.slice A' k c',.int .i64 ((k:Int) * 72)])∧OwnFrs w' W.heap.size A' k c' l∧Below W.heap.size W w':=by
 refine (scan_any A m c bs n e W (hx.more hB) hm hc hcm hmax).mono ?_
 rintro e w' ⟨A',n',c',rfl,h1,h2,h3⟩
 rw [hl] at h1 h2
 have h4:=h2.out
 rw [hk] at h4
 subst h4
 exact ⟨A',c',rfl,h1,h3⟩
end
theorem own_bys_cap {w:World} {base n c:Nat} {e:TypeId} {A:Option Addr} {bs:List Nat} (h:OwnBys w base e A n c bs):n≤c∧c≤9223372036854775807:=by
 have:=own_cap h;unfold maxLen at this;omega
theorem all_len (b:List Nat) (n e:Int):72 * (all b n e).length≤b.length:=scan_len _ _ _ _
theorem all_puts (l:List Fr) (r:List Nat) (n e:Int) (hf:∀ f ∈ l,f.fine) (h:row l n e=true):all (put l++r) n e=l++all r (n+l.length) (last l e):=by
 unfold all
 rw [scan_puts l r _ n e hf h (by rw [List.length_append,put_len];omega)]
 congr 1
 exact scan_fuel _ _ _ _ _ (by rw [List.length_append,put_len];omega) (by omega)
end Go.Proofs.YtalhdalinpdanaaGreatDoor.scan
end
