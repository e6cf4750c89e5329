/-
  WalGo, Awake12, WalOpenedW
-/
import Derived.Test.YtepfmpmphcndjaaGreatDoorMwo37
import Derived.Test.YtepfmpmphcndjaaGreatDoorMwo46
import Derived.Test.YtepfmpmphcndjaaGreatDoorMwo48
import Derived.Test.YtepfmpmphcndjaaGreatDoorMwo42
set_option linter.unusedVariables false
set_option linter.unusedSimpArgs false
section
namespace Go.Proofs.YtepfmpmphcndjaaGreatDoor.wal
set_option maxRecDepth 20000
open Go.RowKit Go.Proofs.YtepfmpmphcndjaaGreatDoor Go.Proofs.YtepfmpmphcndjaaGreatDoor.frame Go.Proofs.YtepfmpmphcndjaaGreatDoor.disk
abbrev RO (r:Wl × DiskD × List FrameD × Int):World→(Nat→Prop)→Dv × (Option Addr × Nat)→Prop:=fun w S b=>InD w S b.1 r.2.1∧Elems rdFrame 9 w S b.2.1 r.2.2.1∧r.2.2.1.length≤b.2.2∧b.2.2≤maxLen
theorem keeps_o (r:Wl × DiskD × List FrameD × Int):Keeps3 (RO r):=fun w w' S S' b h ha hs=>⟨h.1.keep ha.alike hs,h.2.1.keep keeps_frame ha.alike hs,h.2.2⟩
theorem nil_j {w:World} {S:Nat→Prop} {e n u g c:Int} (h:inI e∧inI n∧inI u∧inI g∧inI c):InJ w S ⟨none,0⟩ ⟨e,n,u,g,c,[]⟩ :=
 ⟨fun hk=>absurd hk (Nat.lt_irrefl 0),Nat.le_refl _,Nat.zero_le _,h.1,h.2.1,h.2.2.1,h.2.2.2.1,h.2.2.2.2⟩
section
variable {w0 W:World} {D:List Fact} {S:Nat→Prop} {u:Dv} {t:DiskD}
theorem g_wopen {b:Int} {r:Wl × DiskD × List FrameD × Int} (e:openL t b=r) (hF:Fixed w0 D S W) (hd:∀ w,Below w0.heap.size w0 w→All D w→InD w S u t) (hs:shortB t.files=true) (hb:inI b) (ht:TabW w0) (he:ErrVar w0) :
  GivesM Tryz.prog w0 D 26 #[.agg (dc u t),.int .i64 b] (Dat (RO r) S W) (fun x=>.tuple #[.agg (jc ⟨none,0⟩ r.1),.agg (dc x.1.2.2.1 r.2.1),.slice x.1.2.2.2.1 r.2.2.1.length x.1.2.2.2.2,.int .i64 r.2.2.2]) (fun x=>[poolF x.1.1 x.1.2.1]):=by
 subst e
 exact gives_dat (R:=RO (openL t b)) (r:=fun x=>.tuple #[.agg (jc ⟨none,0⟩ (openL t b).1),.agg (dc x.1 (openL t b).2.1),.slice x.2.1 (openL t b).2.2.1.length x.2.2,.int .i64 (openL t b).2.2.2]) hF (fun w hw ha=>v_open u t b S w (hd w hw ha) (hF w hw ha).2 hs hb (var_later ht hw) (ev_later he hw))
theorem g_wopen_n {b:Int} {r:Wl × DiskD × List FrameD × Int} {n:Nat} (e:openL t b=r) (hn:r.2.2.1.length=n) (hF:Fixed w0 D S W) (hd:∀ w,Below w0.heap.size w0 w→All D w→InD w S u t) (hs:shortB t.files=true) (hb:inI b) (ht:TabW w0) (he:ErrVar w0) :
  GivesM Tryz.prog w0 D 26 #[.agg (dc u t),.int .i64 b] (Dat (RO r) S W) (fun x=>.tuple #[.agg (jc ⟨none,0⟩ r.1),.agg (dc x.1.2.2.1 r.2.1),.slice x.1.2.2.2.1 n x.1.2.2.2.2,.int .i64 r.2.2.2]) (fun x=>[poolF x.1.1 x.1.2.1]):=by
 subst hn
 exact g_wopen e hF hd hs hb ht he
end
end Go.Proofs.YtepfmpmphcndjaaGreatDoor.wal
end
section
namespace Go.Proofs.YtepfmpmphcndjaaGreatDoor.wal
open Go.RowKit Go.Proofs.YtepfmpmphcndjaaGreatDoor Go.Proofs.YtepfmpmphcndjaaGreatDoor.frame Go.Proofs.YtepfmpmphcndjaaGreatDoor.disk
set_option maxRecDepth 20000
def aD:DiskD:=⟨[],5000, -1,false⟩
def aW:Nat→Wl
 | 0=>⟨1,1,0,0,0,[]⟩
 |i+1=>(putW (aW i) 3 ((i+1:Nat):Int) 0 0 0 0 0).1
def aC:Wl:=⟨1,10,9,9,1,[]⟩
def aX:Wl:=⟨2,10,9,9,1,[]⟩
abbrev RA (aW:Nat→Wl):World→(Nat→Prop)→Jv × Nat→Prop:=fun w S b=>InJ w S b.1 (aW b.2)
theorem keeps_a {aW:Nat→Wl} : Keeps3 (RA aW):=fun w w' S S' b h ha hs=>h.keep ha.alike hs
theorem aJ0 {aW:Nat→Wl} (e:aW 0=⟨1,1,0,0,0,[]⟩) {w:World} {S:Nat→Prop} : InJ w S ⟨none,0⟩ (aW 0):=by rw [e];exact nil_j (by unfold inI;omega)
theorem aX_in {w:World} : InJ w (Lt w.heap.size) ⟨none,0⟩ aX:=nil_j (by unfold inI;omega)
theorem aO:openL aD 0=(aW 0,aD,[],0):=by kernel_rfl
theorem aP_err:∀ i < 9,(putW (aW i) 3 ((i+1:Nat):Int) 0 0 0 0 0).2=0:=by decide +kernel
theorem aP (i:Nat) (h:i < 9):putW (aW i) 3 ((i+1:Nat):Int) 0 0 0 0 0=(aW (i+1),0):=by
 exact Prod.ext rfl (aP_err i h)
theorem aC_is:(commitL (aW 9) aD).1=aC∧(commitL (aW 9) aD).2.2=0:=by decide +kernel
theorem aCq {aW:Nat→Wl} {i:Nat} {aE:DiskD} (e:commitL (aW 9) aD=(aC,aE,0)) (h:i=9):commitL (aW i) aD=(aC,aE,0):=by
 subst h;exact e
theorem aR:right aX=true:=by decide +kernel
theorem aN9:nameV 9=⟨#[108,111,103,46,48,48,48,48,48,48,48,48,48,57]⟩:=by decide +kernel
theorem aNm {w0:World} {D:List Fact} (ht:TabW w0):Gives Tryz.prog w0 D 24 #[.int .i64 9] (.string ⟨#[108,111,103,46,48,48,48,48,48,48,48,48,48,57]⟩):=by
 rw [← aN9];exact n_name (by unfold inI;omega) ht
theorem aD_in {w0:World} {D:List Fact} {S:Nat→Prop} : ∀ w,Below w0.heap.size w0 w→All D w→InD w S ⟨none,0,[]⟩ aD:=fun w _ _ =>
 ⟨fun hk=>absurd hk (Nat.lt_irrefl 0),rfl,Nat.le_refl _,Nat.zero_le _,by unfold inI aD;simp,by unfold inI aD;simp⟩
theorem awake_gen (aW:Nat→Wl) (a0:aW 0=⟨1,1,0,0,0,[]⟩) (aO:openL aD 0=(aW 0,aD,[],0)) (aP:∀ i:Nat,i < 9→putW (aW i) 3 ((i+1:Nat):Int) 0 0 0 0 0=(aW (i+1),0)) (aE aG:DiskD) (aL:List FrameD) (aCm:commitL (aW 9) aD=(aC,aE,0)) (aQ:openL aE 3=(aX,aG,aL,0)) (hL:aL.length=6) (aSg:segs aE=[1,9]) (aEs:shortB aE.files=true)  (w:World) (ht:TabW w) (he:ErrVar w):Calls Tryz.prog 9 #[] w fun e w'=>e = .returned (.bool true)∧Below w.heap.size w w' :=
 have hnm:decide ((⟨#[108,111,103,46,48,48,48,48,48,48,48,48,48,57]⟩:ByteArray)=⟨#[108,111,103,46,48,48,48,48,48,48,48,48,48,57]⟩)=true:=decide_eq_true rfl
 calls_by (fn:=Tryz.f9) (r:=.bool true) (t:=.cm (Dat (RO (aW 0,aD,[],0)) (fun _=>False) w) (fun x=>.tuple #[.agg #[.int .i64 ((aW 0).e),.int .i64 ((aW 0).n),.int .i64 ((aW 0).u),.int .i64 ((aW 0).g),.int .i64 ((aW 0).c),.slice ((⟨none,0⟩:Jv).A) ((aW 0).ws.length) ((⟨none,0⟩:Jv).c)],.agg (dc x.1.2.2.1 aD),.slice x.1.2.2.2.1 0 x.1.2.2.2.2,.int .i64 0]) (fun x=>[poolF x.1.1 x.1.2.1]) (fun x1=>.l (Dat (RA aW) (Un (fun _=>False) x1.1.2.1) x1.1.1) (fun x=>[(1,undef,some (0,0)),(2,undef,some (1,0)),(4,.int .i64 0,none),(5,.int .i64 (x.1.2.2.2:Int),none)]) (fun x=>[(0,#[.int .i64 ((aW x.1.2.2.2).e),.int .i64 ((aW x.1.2.2.2).n),.int .i64 ((aW x.1.2.2.2).u),.int .i64 ((aW x.1.2.2.2).g),.int .i64 ((aW x.1.2.2.2).c),.slice x.1.2.2.1.A ((aW x.1.2.2.2).ws.length) x.1.2.2.1.c])]) [0,1] [poolF x1.1.1 (fun _=>False)] (fun x=>[poolF x.1.1 x.1.2.1,poolF x1.1.1 x1.1.2.1]) (fun x=>x.1.2.2.2≤9) (fun x=>9 - x.1.2.2.2) ((given_ (w:=x1.1.1) (R:=RA aW) (b:=(⟨none,0⟩,0)) (aJ0 a0) keeps_a):Dat (RA aW) (Un (fun _=>False) x1.1.2.1) x1.1.1) (fun y2=>let k0:Value:=.int .i64 ((y2.1.2.2.2+1:Nat):Int); .s (.e k0 (.cm (Dat (fun w S v=>InJ w S v (aW (y2.1.2.2.2+1))) (Un (Un (fun _=>False) x1.1.2.1) y2.1.2.1) y2.1.1) (fun x=>.tuple #[.agg (jc x.1.2.2 (aW (y2.1.2.2.2+1))),.int .i64 0]) (fun x=>[poolF x.1.1 x.1.2.1]) (fun x6=>.k (.e k0 .z)))) (.cm (Dat (RW (aC,aE,0)) (Un (Un (fun _=>False) x1.1.2.1) y2.1.2.1) y2.1.1) (fun x=>.tuple #[.agg (jc x.1.2.2.1 aC),.agg (dc x.1.2.2.2 aE),.int .i64 0]) (fun x=>[poolF x.1.1 x.1.2.1]) (fun x7=>.cm (Dat (RO (aX,aG,aL,0)) (Un (Un (Un (fun _=>False) x1.1.2.1) y2.1.2.1) x7.1.2.1) x7.1.1) (fun x=>.tuple #[.agg (jc ⟨none,0⟩ aX),.agg (dc x.1.2.2.1 aG),.slice x.1.2.2.2.1 6 x.1.2.2.2.2,.int .i64 0]) (fun x=>[poolF x.1.1 x.1.2.1]) (fun x8=>.cm (Option Addr × Nat) (fun x=>.slice x.1 2 x.2) (fun x=>[ownF (rdInt .i64) 1 2 x.1 2 x.2 ([1,9])]) (fun x9=>.k (.k (.k (.k (.k (.k (.k (.k (.k (.k (.k (.k (.k (.k (.k (.k (.k (.k (.k (.k (.q (blkA x9.1) (offA x9.1+1 * 1) #[.int .i64 (([1,9]).getD 1 0)] (.e (.bool true) (.k (.c (.string (⟨#[108,111,103,46,48,48,48,48,48,48,48,48,48,57]⟩)) (.x (.bool true) (.k (.c (.bool true) .z))))))))))))))))))))))))))))))))) (X :=
 let k0:Value:=.string (⟨#[108,111,103,46,48,48,48,48,48,48,48,48,48,57]⟩);let k1:Array Value:=#[.int .i64 ((aW 0).e),.int .i64 ((aW 0).n),.int .i64 ((aW 0).u),.int .i64 ((aW 0).g),.int .i64 ((aW 0).c),.slice ((⟨none,0⟩:Jv).A) ((aW 0).ws.length) ((⟨none,0⟩:Jv).c)];GivesM Tryz.prog w [] 26 #[.agg #[.slice none 0 0,.int .i64 5000,.int .i64 (-1),.bool false],.int .i64 0] (Dat (RO (aW 0,aD,[],0)) (fun _=>False) w) (fun x=>.tuple #[.agg k1,.agg (dc x.1.2.2.1 aD),.slice x.1.2.2.2.1 0 x.1.2.2.2.2,.int .i64 0]) (fun x=>[poolF x.1.1 x.1.2.1])∧∀ x1:Dat (RO (aW 0,aD,[],0)) (fun _=>False) w,let k2:=dc x1.1.2.2.1 aD;  ∀ g0:Nat,let k3:Option Addr:=some ⟨g0,0,none⟩;  ∀ g1:Nat,let k4:Option Addr:=some ⟨g1,0,none⟩;Brings w [poolF x1.1.1 x1.1.2.1] [poolF x1.1.1 (fun _=>False)]∧(((given_ (w:=x1.1.1) (R:=RA aW) (b:=(⟨none,0⟩,0)) (aJ0 a0) keeps_a):Dat (RA aW) (Un (fun _=>False) x1.1.2.1) x1.1.1).1.2.2.2≤9)∧(([.pointer k3,.pointer k4,.int .i64 0,.int .i64 0]:List Value)=[.pointer k3,.pointer k4,.int .i64 0,.int .i64 (((given_ (w:=x1.1.1) (R:=RA aW) (b:=(⟨none,0⟩,0)) (aJ0 a0) keeps_a):Dat (RA aW) (Un (fun _=>False) x1.1.2.1) x1.1.1).1.2.2.2:Int)]∧([some ⟨g1,0,k2,.own 27⟩,some ⟨g0,0,k1,.own 24⟩]:List (Option Blk))=[some ⟨g1,0,k2,.own 27⟩,some ⟨g0,0,#[.int .i64 ((aW ((given_ (w:=x1.1.1) (R:=RA aW) (b:=(⟨none,0⟩,0)) (aJ0 a0) keeps_a):Dat (RA aW) (Un (fun _=>False) x1.1.2.1) x1.1.1).1.2.2.2).e),.int .i64 ((aW ((given_ (w:=x1.1.1) (R:=RA aW) (b:=(⟨none,0⟩,0)) (aJ0 a0) keeps_a):Dat (RA aW) (Un (fun _=>False) x1.1.2.1) x1.1.1).1.2.2.2).n),.int .i64 ((aW ((given_ (w:=x1.1.1) (R:=RA aW) (b:=(⟨none,0⟩,0)) (aJ0 a0) keeps_a):Dat (RA aW) (Un (fun _=>False) x1.1.2.1) x1.1.1).1.2.2.2).u),.int .i64 ((aW ((given_ (w:=x1.1.1) (R:=RA aW) (b:=(⟨none,0⟩,0)) (aJ0 a0) keeps_a):Dat (RA aW) (Un (fun _=>False) x1.1.2.1) x1.1.1).1.2.2.2).g),.int .i64 ((aW ((given_ (w:=x1.1.1) (R:=RA aW) (b:=(⟨none,0⟩,0)) (aJ0 a0) keeps_a):Dat (RA aW) (Un (fun _=>False) x1.1.2.1) x1.1.1).1.2.2.2).c),.slice (((given_ (w:=x1.1.1) (R:=RA aW) (b:=(⟨none,0⟩,0)) (aJ0 a0) keeps_a):Dat (RA aW) (Un (fun _=>False) x1.1.2.1) x1.1.1).1.2.2.1.A) ((aW ((given_ (w:=x1.1.1) (R:=RA aW) (b:=(⟨none,0⟩,0)) (aJ0 a0) keeps_a):Dat (RA aW) (Un (fun _=>False) x1.1.2.1) x1.1.1).1.2.2.2).ws.length) (((given_ (w:=x1.1.1) (R:=RA aW) (b:=(⟨none,0⟩,0)) (aJ0 a0) keeps_a):Dat (RA aW) (Un (fun _=>False) x1.1.2.1) x1.1.1).1.2.2.1.c)],.own 24⟩]∧Turns w [poolF x1.1.1 (fun _=>False),poolF x1.1.1 x1.1.2.1] [poolF ((given_ (w:=x1.1.1) (R:=RA aW) (b:=(⟨none,0⟩,0)) (aJ0 a0) keeps_a):Dat (RA aW) (Un (fun _=>False) x1.1.2.1) x1.1.1).1.1 ((given_ (w:=x1.1.1) (R:=RA aW) (b:=(⟨none,0⟩,0)) (aJ0 a0) keeps_a):Dat (RA aW) (Un (fun _=>False) x1.1.2.1) x1.1.1).1.2.1,poolF x1.1.1 x1.1.2.1])∧true=true∧∀ (y2:Dat (RA aW) (Un (fun _=>False) x1.1.2.1) x1.1.1),(y2.1.2.2.2≤9)→∀ τ4:Nat→Value,let k5:=((y2.1.2.2.2+1:Nat):Int);let k8:=(y2.1.2.2.2:Int);let k6:=(.int .i64 (IntKind.i64.wrap (k8+1)):Value);let k7:=aW (y2.1.2.2.2+1);let k9:List Fact:=[poolF y2.1.1 y2.1.2.1,poolF x1.1.1 x1.1.2.1];let k10:=jc y2.1.2.2.1 (aW y2.1.2.2.2);((decide (k8 < 9))=true→k6 = .int .i64 k5∧GivesM Tryz.prog w k9 11 #[.agg k10,.int .i64 3,.agg #[.int .i64 k5,.int .i64 0,.int .i64 0,.int .i64 0,.int .i64 0,.int .i64 0]] (Dat (fun w S v=>InJ w S v k7) (Un (Un (fun _=>False) x1.1.2.1) y2.1.2.1) y2.1.1) (fun x=>.tuple #[.agg (jc x.1.2.2 k7),.int .i64 0]) (fun x=>[poolF x.1.1 x.1.2.1])∧∀ x6:Dat (fun w S v=>InJ w S v k7) (Un (Un (fun _=>False) x1.1.2.1) y2.1.2.1) y2.1.1,∀ g2:Nat,k6 = .int .i64 k5∧∃ x' : Dat (RA aW) (Un (fun _=>False) x1.1.2.1) x1.1.1,(x'.1.2.2.2≤9)∧(9 - x'.1.2.2.2 < 9 - y2.1.2.2.2)∧(([.pointer k3,.pointer k4,.int .i64 0,.int .i64 k5]:List Value)=[.pointer k3,.pointer k4,.int .i64 0,.int .i64 (x'.1.2.2.2:Int)]∧([some ⟨g1,0,k2,.own 27⟩,some ⟨g0,0,(jc x6.1.2.2 k7),.own 24⟩]:List (Option Blk))=[some ⟨g1,0,k2,.own 27⟩,some ⟨g0,0,#[.int .i64 ((aW x'.1.2.2.2).e),.int .i64 ((aW x'.1.2.2.2).n),.int .i64 ((aW x'.1.2.2.2).u),.int .i64 ((aW x'.1.2.2.2).g),.int .i64 ((aW x'.1.2.2.2).c),.slice x'.1.2.2.1.A ((aW x'.1.2.2.2).ws.length) x'.1.2.2.1.c],.own 24⟩]∧Turns w [poolF x6.1.1 x6.1.2.1,poolF y2.1.1 y2.1.2.1,poolF x1.1.1 x1.1.2.1] [poolF x'.1.1 x'.1.2.1,poolF x1.1.1 x1.1.2.1])∧true=true)∧((decide (k8 < 9))=false→GivesM Tryz.prog w k9 16 #[.agg k10,.agg k2] (Dat (RW (aC,aE,0)) (Un (Un (fun _=>False) x1.1.2.1) y2.1.2.1) y2.1.1) (fun x=>.tuple #[.agg (jc x.1.2.2.1 aC),.agg (dc x.1.2.2.2 aE),.int .i64 0]) (fun x=>[poolF x.1.1 x.1.2.1])∧∀ x7:Dat (RW (aC,aE,0)) (Un (Un (fun _=>False) x1.1.2.1) y2.1.2.1) y2.1.1,∀ g2:Nat,GivesM Tryz.prog w [poolF x7.1.1 x7.1.2.1,poolF y2.1.1 y2.1.2.1,poolF x1.1.1 x1.1.2.1] 26 #[.agg (dc x7.1.2.2.2 aE),.int .i64 3] (Dat (RO (aX,aG,aL,0)) (Un (Un (Un (fun _=>False) x1.1.2.1) y2.1.2.1) x7.1.2.1) x7.1.1) (fun x=>.tuple #[.agg (jc ⟨none,0⟩ aX),.agg (dc x.1.2.2.1 aG),.slice x.1.2.2.2.1 6 x.1.2.2.2.2,.int .i64 0]) (fun x=>[poolF x.1.1 x.1.2.1])∧∀ x8:Dat (RO (aX,aG,aL,0)) (Un (Un (Un (fun _=>False) x1.1.2.1) y2.1.2.1) x7.1.2.1) x7.1.1,∀ g3:Nat,∀ g4:Nat,GivesM Tryz.prog w [poolF x8.1.1 x8.1.2.1,poolF x7.1.1 x7.1.2.1,poolF y2.1.1 y2.1.2.1,poolF x1.1.1 x1.1.2.1] 21 #[.agg (dc x7.1.2.2.2 aE)] (Option Addr × Nat) (fun x=>.slice x.1 2 x.2) (fun x=>[ownF (rdInt .i64) 1 2 x.1 2 x.2 ([1,9])])∧∀ x9:Option Addr × Nat,let k11:List Fact:=[ownF (rdInt .i64) 1 2 x9.1 2 x9.2 ([1,9]),poolF x8.1.1 x8.1.2.1,poolF x7.1.1 x7.1.2.1,poolF y2.1.1 y2.1.2.1,poolF x1.1.1 x1.1.2.1];Yields0 Tryz.prog w k11 (Instr.indexAt 47 (.slice x9.1 2 x9.2) (.int .i64 1)) (.pointer (some ⟨blkA x9.1,offA x9.1+1 * 1,none⟩))∧Reads0 w k11 (blkA x9.1) (offA x9.1+1 * 1) #[.int .i64 (([1,9]).getD 1 0)]∧(.bool (decide ((([1,9]).getD 1 0)=9)):Value) = .bool true∧Gives Tryz.prog w k11 24 #[.int .i64 9] k0∧Yields0 Tryz.prog w k11 (do eqGuard BinOp.eql 9 (.tmp 105) (.const k0) k0 k0;Go.binOp BinOp.eql 9 k0 k0) (.bool true)∧Gives Tryz.prog w k11 13 #[.agg (jc ⟨none,0⟩ aX)] (.bool true)∧((.bool true:Value) = .bool true))) Tryz.func9 (by kernel_rfl)
 (⟨(g_wopen (u:=⟨none,0,[]⟩) (t:=aD) aO (fixed_low (fun k hk=>hk.elim)) aD_in (by decide) (by unfold inI;omega) ht he),fun x1=>fun g0=>fun g1=>⟨(fun _ _ _=>news_pool0),(by dsimp only;omega),⟨rfl,rfl,(turns_sub (.cons_cons _ (.cons_cons _ (List.nil_sublist _))))⟩,rfl,fun y2 I3 τ4=>⟨fun h5=>have h5:(y2.1.2.2.2:Int) < 9:=(by simpa using h5)
⟨wrap_is rfl (by omega) (by omega),⟨(g_wput (aP y2.1.2.2.2 (by omega)) (fixed_next (fixed_next (fixed_low (fun k hk=>hk.elim)) x1 (i:=1) rfl) y2 (i:=0) rfl) (fun w1 hw ha=>((dat_in keeps_a (fixed_next (fixed_low (fun k hk=>hk.elim)) x1 (i:=1) rfl) y2 (i:=0) rfl w1 hw ha))) (by unfold inI;omega) (by unfold inI;omega)),fun x6=>fun g2=>⟨wrap_is rfl (by omega) (by omega),⟨((turnAt (glue keeps_a y2 (keeps_j _) x6) (x6.1.2.2,y2.1.2.2.2+1) (glue keeps_a y2 (keeps_j _) x6).2.1.2):Dat (RA aW) (Un (fun _=>False) x1.1.2.1) x1.1.1),(by dsimp only;omega),(by dsimp only;omega),⟨rfl,rfl,(turns_glue2 keeps_a y2 (keeps_j _) x6)⟩,rfl⟩⟩⟩⟩,
 fun h5=>have h5:¬ (y2.1.2.2.2:Int) < 9:=(by simpa using h5)
⟨(g_wcommit (aCq aCm (by omega)) (fixed_next (fixed_next (fixed_low (fun k hk=>hk.elim)) x1 (i:=1) rfl) y2 (i:=0) rfl) (fun w1 hw ha=>((dat_in keeps_a (fixed_next (fixed_low (fun k hk=>hk.elim)) x1 (i:=1) rfl) y2 (i:=0) rfl w1 hw ha))) (fun w1 hw ha=>((dat_in (keeps_o _) (fixed_low (fun k hk=>hk.elim)) x1 (i:=1) rfl w1 hw ha).1).more (fun _ h=>.inl h)) (by decide) ht he),fun x7=>fun g2=>⟨(g_wopen_n aQ hL (fixed_next (fixed_next (fixed_next (fixed_low (fun k hk=>hk.elim)) x1 (i:=2) rfl) y2 (i:=1) rfl) x7 (i:=0) rfl) (fun w1 hw ha=>((dat_in (keeps_w _) (fixed_next (fixed_next (fixed_low (fun k hk=>hk.elim)) x1 (i:=2) rfl) y2 (i:=1) rfl) x7 (i:=0) rfl w1 hw ha).2)) aEs (by unfold inI;omega) ht he),fun x8=>fun g3=>fun g4=>⟨(g_wsegs (l:=[1,9]) aSg (fun w1 hw ha=>(dat_all (keeps_w _) (fixed_next (fixed_next (fixed_low (fun k hk=>hk.elim)) x1 (i:=3) rfl) y2 (i:=2) rfl) x7 (i:=1) rfl w1 hw ha).2) aEs ht he),fun x9=>⟨(own_index Tryz.underlying47 info_i64 (row_at (j:=0) rfl) (by decide)),(own_reads (keeps_int _) (by decide) int_cells (row_at (j:=0) rfl) (at_getD (by decide))),⟨rfl,⟨(aNm ht),⟨(by rw [← hnm];exact (str_eql _ _)),⟨(g_wright aR (fun w1 _ _=>aX_in)),rfl⟩⟩⟩⟩⟩⟩⟩⟩⟩⟩⟩)
theorem aQ_is:(openL (commitL (aW 9) aD).2.1 3).1=aX∧(openL (commitL (aW 9) aD).2.1 3).2.2.2=0∧(openL (commitL (aW 9) aD).2.1 3).2.2.1.length=6∧segs (commitL (aW 9) aD).2.1=[1,9]∧shortB (commitL (aW 9) aD).2.1.files=true:=by decide +kernel
theorem awake12 (w:World) (ht:TabW w) (he:ErrVar w):Calls Tryz.prog 9 #[] w fun e w'=>e = .returned (.bool true)∧Below w.heap.size w w':=by
 obtain ⟨h1,h2,h3,h4,h5⟩:=aQ_is
 exact awake_gen aW rfl aO aP _ _ _ (Prod.ext aC_is.1 (Prod.ext rfl aC_is.2)) (Prod.ext h1 (Prod.ext rfl (Prod.ext rfl h2))) h3 h4 h5 w ht he
end Go.Proofs.YtepfmpmphcndjaaGreatDoor.wal
end
section
namespace Go.Proofs.YtepfmpmphcndjaaGreatDoor.wal
open Go.RowKit Go.Proofs.YtepfmpmphcndjaaGreatDoor Go.Proofs.YtepfmpmphcndjaaGreatDoor.frame Go.Proofs.YtepfmpmphcndjaaGreatDoor.disk
set_option maxRecDepth 20000
section
variable {w0 W:World} {D:List Fact} {S:Nat→Prop} {u:Dv} {t:DiskD}
theorem g_ropen {b:Int} {r:Wl × DiskD × List FrameD × Int} (e:openR t b=r) (hF:Fixed w0 D S W) (hd:∀ w,Below w0.heap.size w0 w→All D w→InD w S u t) (hs:shortB t.files=true) (hb:inI b) :
  GivesM Tryz.prog w0 D 27 #[.agg (dc u t),.int .i64 b] (Dat (RO r) S W) (fun x=>.agg (oc x.1.2.2 r)) (fun x=>[poolF x.1.1 x.1.2.1]):=by
 subst e
 exact gives_dat (R:=RO (openR t b)) (r:=fun x=>.agg (oc x (openR t b))) hF (fun w hw ha=>v_ropen u t b S w (hd w hw ha) (hF w hw ha).2 hs hb)
theorem g_rsame_f {A A2:Option Addr} {c c2:Nat} {L:List FrameD} (h1:∀ w,Below w0.heap.size w0 w→All D w→Elems rdFrame 9 w (Lt w.heap.size) A L) (h2:∀ w,Below w0.heap.size w0 w→All D w→Elems rdFrame 9 w (Lt w.heap.size) A2 L) (hl:L.length≤1000):Gives Tryz.prog w0 D 28 #[.slice A L.length c,.slice A2 L.length c2] (.bool true):=fun w hw ha =>
 scan.same_of w (h1 w hw ha) (Nat.le_refl _) rfl (by omega) (h2 w hw ha) (Nat.le_refl _) rfl (by omega) (decide_eq_true rfl)
end
theorem open_in {t:DiskD} {b:Int} (hb:inI b) (hs:shortB t.files=true):∃ e n u1 g c D L z,openL t b=((⟨e,n,u1,g,c,[]⟩:Wl),D,L,z)∧(inI e∧inI n∧inI u1∧inI g∧inI c)∧L.length≤1000:=by
 rw [← openR_is]
 unfold openR
 have hz:inI 0:=by unfold inI;omega
 split
 ·exact ⟨_,_,_,_,_,_,_,_,rfl,⟨hz,hz,hz,hz,hz⟩,Nat.zero_le _⟩
 rename_i hb1
 split
 ·exact ⟨_,_,_,_,_,_,_,_,rfl,⟨hz,hz,hz,hz,hz⟩,Nat.zero_le _⟩
 split
 ·exact ⟨_,_,_,_,_,_,_,_,rfl,⟨hz,hz,hz,hz,hz⟩,Nat.zero_le _⟩
 split
 ·exact ⟨_,_,_,_,_,_,_,_,rfl,⟨hz,hz,hz,hz,hz⟩,Nat.zero_le _⟩
 split
 ·cases hno:noB (readQ t).1 b with
  |true =>
   rw [if_pos rfl,if_pos rfl]
   exact ⟨_,_,_,_,_,_,_,_,rfl,⟨by unfold inI;omega,by unfold inI;omega,hb,hz,hz⟩,Nat.zero_le _⟩
  |false =>
   rw [if_neg (by simp),if_neg (by simp)]
   have h1:=lf_rng (no_pos rfl hno)
   have h2:=seg_rng (segs_rng t) (left_in (b:=b) ⟨rfl,hno⟩)
   have h3:=rq_len t
   have h4:=segs_len hs
   refine ⟨_,_,_,_,_,_,_,_,rfl,⟨by unfold inI;omega,by unfold inI;omega,by unfold inI;omega,by unfold inI;omega,by unfold inI;omega⟩,?_⟩
   exact Nat.le_trans (List.length_filter_le _ _) (by omega)
 ·exact ⟨_,_,_,_,_,_,_,_,rfl,⟨hz,hz,hz,hz,hz⟩,Nat.zero_le _⟩
theorem walk1 (u:Dv) (t:DiskD) (b e n u1 g c z:Int) (D:DiskD) (L:List FrameD)  (w:World) (hd:InD w (Lt w.heap.size) u t) (hbi:inI b) (hr:openL t b=((⟨e,n,u1,g,c,[]⟩:Wl),D,L,z)) (hR:openR t b=((⟨e,n,u1,g,c,[]⟩:Wl),D,L,z)) (hn:inI e∧inI n∧inI u1∧inI g∧inI c) (hL:L.length≤1000) (ht:TabW w) (he:ErrVar w):Calls Tryz.prog 4 #[.agg (dc u t),.int .i64 b] w fun e w'=>e = .returned (.bool true)∧Below w.heap.size w w' :=
 have hS:∀ k,Lt w.heap.size k→k < w.heap.size:=fun k hk=>hk
 calls_by (fn:=Tryz.f4) (r:=.bool true) (t:=let k0:=(⟨e,n,u1,g,c,[]⟩:Wl); .c (.bool true) (.cs (shortB t.files) (.cm (Dat (RO (k0,D,L,z)) (Lt w.heap.size) w) (fun x=>.tuple #[.agg (jc (⟨none,0⟩:Jv) k0),.agg (dc x.1.2.2.1 D),.slice x.1.2.2.2.1 L.length x.1.2.2.2.2,.int .i64 z]) (fun x=>[poolF x.1.1 x.1.2.1]) (fun x2=>.cm (Dat (RO (k0,D,L,z)) (Un (Lt w.heap.size) x2.1.2.1) x2.1.1) (fun x=>.agg #[.int .i64 e,.int .i64 n,.int .i64 u1,.int .i64 g,.int .i64 c,.slice none 0 0,.slice x.1.2.2.1.A D.files.length x.1.2.2.1.c,.int .i64 D.room,.int .i64 D.fuse,.bool D.down,.slice x.1.2.2.2.1 L.length x.1.2.2.2.2,.int .i64 z]) (fun x=>[poolF x.1.1 x.1.2.1]) (fun x3=>.m true (.k (.c (.bool true) (.k (.c (.bool true) (.k (.c (.bool true) .z))))))))) .z)) (X :=
 let k0:=(⟨e,n,u1,g,c,[]⟩:Wl);let k1:=RO (k0,D,L,z);let k2:=Lt w.heap.size;let k3:=(⟨none,0⟩:Jv);let k4:=(.bool true:Value) = .bool true;let k5:=shortB t.files; ∀ g0:Nat,Gives Tryz.prog w [] 9 #[] (.bool true)∧Gives Tryz.prog w [] 25 #[.agg (dc u t)] (.bool k5)∧(k5=true→GivesM Tryz.prog w [] 26 #[.agg (dc u t),.int .i64 b] (Dat k1 k2 w) (fun x=>.tuple #[.agg (jc k3 k0),.agg (dc x.1.2.2.1 D),.slice x.1.2.2.2.1 L.length x.1.2.2.2.2,.int .i64 z]) (fun x=>[poolF x.1.1 x.1.2.1])∧∀ x2:Dat k1 k2 w,∀ g1:Nat,∀ g2:Nat,GivesM Tryz.prog w [poolF x2.1.1 x2.1.2.1] 27 #[.agg (dc u t),.int .i64 b] (Dat k1 (Un k2 x2.1.2.1) x2.1.1) (fun x=>.agg #[.int .i64 e,.int .i64 n,.int .i64 u1,.int .i64 g,.int .i64 c,.slice none 0 0,.slice x.1.2.2.1.A D.files.length x.1.2.2.1.c,.int .i64 D.room,.int .i64 D.fuse,.bool D.down,.slice x.1.2.2.2.1 L.length x.1.2.2.2.2,.int .i64 z]) (fun x=>[poolF x.1.1 x.1.2.1])∧∀ x3:Dat k1 (Un k2 x2.1.2.1) x2.1.1,let k6:List Fact:=[poolF x3.1.1 x3.1.2.1,poolF x2.1.1 x2.1.2.1];  ∀ g3:Nat,(decide (z=z))=true∧Gives Tryz.prog w k6 15 #[.agg (jc k3 k0),.agg (jc k3 k0)] (.bool true)∧Gives Tryz.prog w k6 18 #[.agg (dc x2.1.2.2.1 D),.agg (dc x3.1.2.2.1 D)] (.bool true)∧Gives Tryz.prog w k6 28 #[.slice x2.1.2.2.2.1 L.length x2.1.2.2.2.2,.slice x3.1.2.2.2.1 L.length x3.1.2.2.2.2] (.bool true)∧k4)∧(k5=false→k4)) Tryz.func4 (by kernel_rfl)
 (fun g0=>⟨(fun w1 hw _=>awake12 w1 (var_later ht hw) (ev_later he hw)),⟨(fun w1 hw _=>d_rshort (hd.later hw)),fun h1=>⟨(g_wopen hr (fixed_low (fun k hk=>hk)) (fun w1 hw _=>(hd.keep (low_alike hS hw) (fun _ h=>h))) h1 hbi ht he),fun x2=>fun g1=>fun g2=>⟨(g_ropen hR (fixed_next (fixed_low (fun k hk=>hk)) x2 (i:=0) rfl) (fun w1 hw _=>((hd.keep (low_alike hS hw) (fun _ h=>h)).more (fun _ h=>.inl h))) h1 hbi),fun x3=>fun g3=>⟨by first | (simp;done) | (simp only [dq];omega),⟨(g_rsame_j (fun w1 _ _=>nil_j hn) (fun w1 _ _=>nil_j hn) (Nat.zero_le _)),⟨(g_rsame_d (fun w1 hw ha=>(dat_all (keeps_o _) (fixed_low (fun k hk=>hk)) x2 (i:=1) rfl w1 hw ha).1) (fun w1 hw ha=>(dat_all (keeps_o _) (fixed_next (fixed_low (fun k hk=>hk)) x2 (i:=1) rfl) x3 (i:=0) rfl w1 hw ha).1)),⟨(g_rsame_f (fun w1 hw ha=>(dat_all (keeps_o _) (fixed_low (fun k hk=>hk)) x2 (i:=1) rfl w1 hw ha).2.1) (fun w1 hw ha=>(dat_all (keeps_o _) (fixed_next (fixed_low (fun k hk=>hk)) x2 (i:=1) rfl) x3 (i:=0) rfl w1 hw ha).2.1) hL),rfl⟩⟩⟩⟩⟩⟩,
 fun h1=>rfl⟩⟩)
theorem walk2 (u:Dv) (t:DiskD) (b:Int)  (w:World) (hd:InD w (Lt w.heap.size) u t) (hs:shortB t.files=false) (ht:TabW w) (he:ErrVar w):Calls Tryz.prog 4 #[.agg (dc u t),.int .i64 b] w fun e w'=>e = .returned (.bool true)∧Below w.heap.size w w' :=
 calls_by (fn:=Tryz.f4) (r:=.bool true) (t:=.c (.bool true) (.c (.bool false) .z)) (X :=
∀ g0:Nat,Gives Tryz.prog w [] 9 #[] (.bool true)∧Gives Tryz.prog w [] 25 #[.agg (dc u t)] (.bool false)∧((.bool true:Value) = .bool true)) Tryz.func4 (by kernel_rfl)
 (fun g0=>⟨(fun w1 hw _=>awake12 w1 (var_later ht hw) (ev_later he hw)),⟨(fun w1 hw _=>by have:=d_rshort (hd.later hw);rw [hs] at this;exact this),rfl⟩⟩)
theorem walk0 (u:Dv) (t:DiskD) (b:Int) (w:World) (hd:InD w (Lt w.heap.size) u t) (hbi:inI b) (ht:TabW w) (he:ErrVar w):Calls Tryz.prog 4 #[.agg (dc u t),.int .i64 b] w fun e w'=>e = .returned (.bool true)∧Below w.heap.size w w':=by
 cases hs:shortB t.files with
 |true =>
  obtain ⟨e,n,u1,g,c,D,L,z,hr,hn,hL⟩:=open_in hbi hs
  exact walk1 u t b e n u1 g c z D L w hd hbi hr ((openR_is t b).trans hr) hn hL ht he
 |false=>exact walk2 u t b w hd hs ht he
end Go.Proofs.YtepfmpmphcndjaaGreatDoor.wal
end
