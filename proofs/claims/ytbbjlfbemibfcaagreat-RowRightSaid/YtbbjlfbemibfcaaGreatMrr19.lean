/-
  zyw, zyx
-/
import Derived.Test.YtbbjlfbemibfcaaGreatMrr18
import Derived.Lib.AppendStr
import Derived.Laws.MakeOwn
import Derived.Test.YtbbjlfbemibfcaaGreatMrr16
import Derived.Test.YtbbjlfbemibfcaaGreatMrr14
import Derived.Test.YtbbjlfbemibfcaaGreatMrr11
set_option linter.unusedVariables false
set_option linter.unusedSimpArgs false
section
namespace Go.Proofs.YtbbjlfbemibfcaaGreat.row
set_option maxRecDepth 20000
open Go.RowKit Go.Proofs.YtbbjlfbemibfcaaGreat
section
variable {P:Program} {w0:World} {D:List Fact}
theorem qy0 {w:World} {g c:Nat} {k:IntKind} {e:TypeId} {cur:Array Value} (h:w.heap[g]?=some (.cells cur e (0,0))) (hs:cur.size=c) (hc:c≤maxLen):um (bf k) 1 w 0 e (fun _=>False) (some ⟨g,0,none⟩) 0 c [] :=
 ⟨[],⟨by simp,.inr ⟨g,c,cur,rfl,Nat.zero_le _,h,Nat.zero_le _,hc,by rw [hs,Nat.mul_one],by simp⟩⟩,trivial,rfl⟩
theorem q19 {t e:TypeId} {k:IntKind} {bytes c:Nat} (ht:P.underlying t=some (.slice e)) (hinfo:(P.info? e).map (fun i=>(i.zero,i.size,i.bytes))=some (some (.int k 0),1,bytes)) (hb:bytes≤8) (hc:c≤1000000) :
  jw P w0 D (Instr.makeSlice t (.int .i64 0) (.int .i64 (c:Int))) (fun _=>False) Nat (fun g=>.slice (some ⟨g,0,none⟩) 0 c) (fun g=>[ah (bf k) 1 e (some ⟨g,0,none⟩) 0 c []]):=by
 intro w hw ha
 obtain ⟨i,hi,hzz⟩:=Option.map_eq_some_iff.1 hinfo
 simp only [Prod.mk.injEq] at hzz
 obtain ⟨hz,hs,hby⟩:=hzz
 have hbb:(i.bytes:Int) * (c:Int)≤281474976710656:=by
  rw [hby]
  have:bytes * c≤8 * 1000000:=Nat.mul_le_mul hb hc
  have:((bytes * c:Nat):Int)≤8000000:=by omega
  rw [Int.natCast_mul] at this;omega
 have hr:=run_make (P:=P) w t e i (.int k 0) ht hi hz .i64 .i64 0 (c:Int) (Int.le_refl _) (by omega) hbb (by omega)
 rw [Int.toNat_natCast,hs,Nat.mul_one] at hr
 refine ⟨w.heap.size,_,hr,qh6 _ _ _,Om (qy0 (heap_alloc_new _ _) (by simp [madeCells]) (by unfold maxLen;omega)) (Ko (pz k)) (fun g hg=>?_)⟩
 simp only [ah,Value.ownBlock] at hg
 have hg:=Option.some.inj hg
 exact ⟨.inr (by omega),by simp;omega⟩
theorem qxh {t u ty e:TypeId} {bytes g c n:Nat} {s:ByteArray} {xs:List Nat} (ht:P.underlying t=some (.slice e)) (hu:P.underlying u=some .string) (hinfo:(P.info? e).map (fun i=>(i.zero,i.size,i.bytes))=some (some (.int .u8 0),1,bytes))
  (hs:s.data.toList.map (fun b=>b.toNat)=xs) (hn:s.size=n) (hc:n≤c) {j:Nat} (hj:D[j]?=some (ah (bf .u8) 1 e (some ⟨g,0,none⟩) 0 c [])) :
  jw P w0 D (Builtin.append_ #[t,u] ty #[.slice (some ⟨g,0,none⟩) 0 c,.string s]) (ah (bf .u8) 1 e (some ⟨g,0,none⟩) 0 c []).S Unit (fun _=>.slice (some ⟨g,0,none⟩) n c) (fun _=>[ah (bf .u8) 1 e (some ⟨g,0,none⟩) n c (ak xs)]):=by
 intro w hw ha
 subst hn
 obtain ⟨i,hi,hzz⟩:=Option.map_eq_some_iff.1 hinfo
 simp only [Prod.mk.injEq] at hzz
 obtain ⟨hz,hs1,hby⟩:=hzz
 have hrow:=ji hj w ha
 obtain ⟨css,⟨hcl,hr⟩,hE,hlen⟩:=hrow
 have hxl:xs.length=s.size:=by rw [← hs,List.length_map,Array.length_toList];rfl
 rcases hr with ⟨hv,_⟩ | ⟨g',cap,cur,hv,_,hg,hnc,hcm,hsz,hcur⟩
 ·simp at hv
 ·simp only [Value.slice.injEq,Option.some.injEq,Addr.mk.injEq,and_true,true_and] at hv
  obtain ⟨rfl,rfl⟩:=hv
  rw [Nat.mul_one] at hsz
  have hrun:=Go.Lib.run_append_room_string (P:=P) w t u ty e i ht hu hi hs1 g 0 c cur hg s (by omega) (by omega)
  rw [Nat.zero_add,List.take_zero,List.nil_append] at hrun
  have hsc:(Go.Lib.strCells s).length=s.size:=Go.Lib.strCells_length s
  have hstr:Go.Lib.strCells s=(ak xs).map (Value.int .u8):=by
   unfold Go.Lib.strCells ak
   rw [← hs,List.map_map,List.map_map];rfl
  have hwf:∀ x ∈ ak xs,(Lit.int .u8 x).wf=true:=fun x hx=>by
   unfold ak at hx
   rw [← hs,List.map_map] at hx
   obtain ⟨b,_,rfl⟩:=List.mem_map.1 hx
   exact (wf_u8 _).2 b.toNat_lt
  refine ⟨(),_,hrun,⟨rfl,rfl,rfl,by simp,fun k hk hx=>?_⟩,Om (qnu ⟨⟨by rw [List.length_map,iy,hxl,Nat.mul_one],.inr ⟨g,c,_,rfl,Nat.zero_le _,setRow_heap w g cur _ e (0,0) hg,hc,hcm,?_,?_⟩⟩,hwf⟩) (Ko (pz .u8)) (fun k hk=>⟨.inl hk,?_⟩)⟩
  ·refine setRow_other w g k _ (fun e2=>hx ?_)
   simp only [ah,Value.ownBlock,e2]
  ·rw [List.size_toArray,List.length_append,hsc,List.length_drop,Array.length_toList];omega
  ·rw [Nat.mul_one,List.take_append_of_le_length (by rw [hsc];omega),List.take_of_length_le (by rw [hsc];omega),hstr]
  ·simp only [ah,Value.ownBlock] at hk
   have hk:=Option.some.inj hk
   subst hk
   rw [size_setRow]
   exact (Array.getElem?_eq_some_iff.1 hg).1
theorem Ov {k:IntKind} : ∀ x ∈ ([]:List Int),(Lit.int k x).wf=true:=fun x hx=>(by cases hx)
theorem Bq {k:IntKind} {a:Int} {l:List Int} (h:(Lit.int k a).wf=true) (ht:∀ x ∈ l,(Lit.int k x).wf=true):∀ x ∈ a :: l,(Lit.int k x).wf=true:=fun x hx=>by
 rcases List.mem_cons.1 hx with rfl | hx
 ·exact h
 ·exact ht x hx
theorem qc6 {m:Sem Value} {e:TypeId} {k:IntKind} {xs:List Int} (h:(F9 P m).map (fun x=>(x.1,x.2.1))=some ((xs.map (Value.int k)).toArray,e)) (hk:∀ g,(F9 P m).bind (fun x=>x.2.2 g)=some (.slice (some ⟨g,0,none⟩) xs.length xs.length))
  (hw:∀ x ∈ xs,(Lit.int k x).wf=true) (hn:xs.length≤1000):jw P w0 D m (fun _=>False) Nat (fun g=>.slice (some ⟨g,0,none⟩) xs.length xs.length) (fun g=>[ah (bf k) 1 e (some ⟨g,0,none⟩) xs.length xs.length xs]):=by
 intro w hw0 ha
 obtain ⟨x,w',h1,h2,h3⟩:=Af (w0:=w0) (D:=D) h hk w hw0 ha
 have hb:=h3.all.1
 simp only [dw] at hb
 have hy:=h3.ni (dw x (xs.map (Value.int k)).toArray e) (by simp) x rfl
 refine ⟨x,w',h1,h2,Om (qnu ⟨⟨by rw [List.length_map,Nat.mul_one],.inr ⟨x,_,_,rfl,Nat.zero_le _,hb,Nat.le_refl _,by unfold maxLen;omega,by simp,by rw [Nat.mul_one,List.take_of_length_le (by simp)]⟩⟩,hw⟩) (Ko (pz k)) (fun q hq=>?_)⟩
 simp only [ah,Value.ownBlock,Option.some.injEq] at hq
 subst hq;exact hy
end
end Go.Proofs.YtbbjlfbemibfcaaGreat.row
end
section
namespace Go.Proofs.YtbbjlfbemibfcaaGreat.row
open Go.RowKit Go.Proofs.YtbbjlfbemibfcaaGreat
set_option maxRecDepth 20000
open Go.Proofs.YtbbjlfbemibfcaaGreat.frame (be zi Me u le4)
open Go.Proofs.YtbbjlfbemibfcaaGreat.book (St)
open Go.Proofs.YtbbjlfbemibfcaaGreat.order (Or oz)
open Go.Proofs.YtbbjlfbemibfcaaGreat.cell (Ce Ex)
def flag (b:Bool):Int:=if b=true then 1 else 0
def xu (o:Or):List Nat:=jf 8 [o.i]++jf 1 [o.a,o.y,o.d,o.h]++jf 8 [o.q,o.p,o.f,o.m,o.r,o.v]++jf 1 [flag o.g]
def Fv (c:Ce):List Nat:=jf 8 [c.p]
def Ie (x:Ex):List Nat:=jf 8 [x.l,x.s,x.n]
def t1 (s:St):List Nat:=[115,110,97,102]++jf 1 [s.a,s.y,(flag s.k),(s.os.length:Int)]
def t2 (s:St):List Nat:=t1 s++jf 8 [s.last,s.seq,s.ng]
abbrev Ai:Ex:=⟨0,0,0⟩
def tO (s:St) (j:Nat):List Nat:=t2 s++(s.os.take j).flatMap xu
def Xh (s:St) (j:Nat):List Nat:=tO s j++jf 8 [(s.os.getD j order.oz).i]
def Xi (s:St) (j:Nat):List Nat:=Xh s j++jf 1 [(s.os.getD j order.oz).a,(s.os.getD j order.oz).y,(s.os.getD j order.oz).d,(s.os.getD j order.oz).h]
def Xj (s:St) (j:Nat):List Nat:=Xi s j++jf 8 [(s.os.getD j order.oz).q,(s.os.getD j order.oz).p,(s.os.getD j order.oz).f,(s.os.getD j order.oz).m,(s.os.getD j order.oz).r,(s.os.getD j order.oz).v]
def Yt (s:St) (j:Nat):List Nat:=Xj s j++jf 1 [(flag (s.os.getD j order.oz).g)]
def tC (s:St) (j:Nat):List Nat:=t2 s++s.os.flatMap xu++(s.cs.take j).flatMap Fv
def tC1 (s:St) (j:Nat):List Nat:=tC s j++jf 8 [(s.cs.getD j cell.cz).p]
def tX (s:St) (j:Nat):List Nat:=t2 s++s.os.flatMap xu++s.cs.flatMap Fv++(s.ls.take j).flatMap Ie
def tX1 (s:St) (j:Nat):List Nat:=tX s j++jf 8 [(s.ls.getD j Ai).l,(s.ls.getD j Ai).s,(s.ls.getD j Ai).n]
def told (s:St):List Nat:=t2 s++s.os.flatMap xu++s.cs.flatMap Fv++s.ls.flatMap Ie++jf 8 s.ps
def Ig (s:St):Nat:=32+s.os.length * 61+s.a.toNat * s.y.toNat * 32+s.a.toNat * 8+4
theorem qpw (b:Bool):frame.jh (flag b):=by unfold flag frame.jh;split<;>omega
theorem qjl {α:Type} {f:α→List Nat} {k:Nat} (h:∀ x,(f x).length=k):∀ l:List α,(l.flatMap f).length=k * l.length
 | []=>by simp
 |x :: l=>by rw [List.flatMap_cons,List.length_append,h,qjl h l,List.length_cons,Nat.mul_succ];omega
theorem qhv (l:List Or):(l.flatMap xu).length=61 * l.length:=qjl (fun o=>by simp only [xu,List.length_append,qc1,List.length_cons,List.length_nil]) l
theorem qmt (l:List Ce):(l.flatMap Fv).length=8 * l.length:=qjl (fun o=>by simp only [Fv,qc1,List.length_cons,List.length_nil]) l
theorem qu9 (l:List Ex):(l.flatMap Ie).length=24 * l.length:=qjl (fun o=>by simp only [Ie,qc1,List.length_cons,List.length_nil]) l
section
variable {s:St} {H:List Nat} {j:Nat}
structure Lens (s:St):Prop where
 a:1≤s.a∧s.a≤8
 y:1≤s.y∧s.y≤8
 o:s.os.length≤64
 c:(s.cs.length:Int)=s.a * s.y∧s.cs.length≤64
 l:(s.ls.length:Int)=s.a * s.y∧s.ls.length≤64
 p:(s.ps.length:Int)=s.a
theorem q5f {a b:Int} (h:1≤a∧a≤8) (h2:1≤b∧b≤8):a * b≤64∧0≤a * b:=by
 have h3:a=1∨a=2∨a=3∨a=4∨a=5∨a=6∨a=7∨a=8:=by omega
 rcases h3 with rfl | rfl | rfl | rfl | rfl | rfl | rfl | rfl<;>omega
theorem uj (h:book.right s=true):Lens s:=by
 obtain ⟨⟨a1,a2,a3,a4⟩,⟨b1,b2,b3⟩,_,⟨_,_,c3⟩,_⟩:=book.dh.1 h
 have:=q5f ⟨a1,a2⟩ ⟨a3,a4⟩
 exact ⟨⟨a1,a2⟩,⟨a3,a4⟩,c3,⟨b1,by omega⟩,⟨b2,by omega⟩,b3⟩
theorem Yu (h:Lens s):36≤Ig s∧Ig s≤10000:=by
 have h1:s.a.toNat * s.y.toNat≤8 * 8:=Nat.mul_le_mul (by have:=h.a;omega) (by have:=h.y;omega)
 have:=h.o;have:=h.a
 unfold Ig;omega
theorem qjm (h:Lens s):(told s).length+4=Ig s:=by
 have h1:((s.a.toNat * s.y.toNat:Nat):Int)=s.a * s.y:=by
  rw [Int.natCast_mul,Int.toNat_of_nonneg (by have:=h.a;omega),Int.toNat_of_nonneg (by have:=h.y;omega)]
 have hc:=h.c.1;have hl:=h.l.1;have hp:=h.p;have ha:=h.a
 have e1:s.cs.length=s.a.toNat * s.y.toNat:=by omega
 have e2:s.ls.length=s.a.toNat * s.y.toNat:=by omega
 have e3:s.ps.length=s.a.toNat:=by omega
 simp only [told,t2,t1,List.length_append,qc1,qhv,qmt,qu9,List.length_cons,List.length_nil]
 rw [e1,e2,e3]
 unfold Ig
 generalize s.a.toNat * s.y.toNat=q
 omega
theorem ql8 {α:Type} {f:α→List Nat} {l:List α} {z:α} (hj:j < l.length):H++(l.take j).flatMap f++f (l.getD j z)=H++(l.take (j+1)).flatMap f:=by
 rw [List.append_assoc]
 congr 1
 rw [List.take_add_one,List.getElem?_eq_getElem hj,List.flatMap_append,List.getD_eq_getElem?_getD,List.getElem?_eq_getElem hj]
 simp
theorem qsn (hj:j < s.os.length):Yt s j=tO s (j+1):=by
 have:=ql8 (H:=t2 s) (f:=xu) (z:=order.oz) hj
 unfold Yt Xj Xi Xh
 show _=t2 s++(s.os.take (j+1)).flatMap xu
 rw [← this]
 simp only [tO,xu,List.append_assoc]
theorem qso (hj:j < s.cs.length):tC1 s j=tC s (j+1):=ql8 (H:=t2 s++s.os.flatMap xu) (f:=Fv) (z:=cell.cz) hj
theorem qsp (hj:j < s.ls.length):tX1 s j=tX s (j+1):=ql8 (H:=t2 s++s.os.flatMap xu++s.cs.flatMap Fv) (f:=Ie) (z:=Ai) hj
theorem qpx:t2 s=tO s 0:=by simp [tO]
theorem qmu (hj:¬ j < s.os.length):tO s j=tC s 0:=by unfold tO tC;rw [List.take_of_length_le (l:=s.os) (by omega)];simp
theorem qmv (hj:¬ j < s.cs.length):tC s j=tX s 0:=by unfold tC tX;rw [List.take_of_length_le (l:=s.cs) (by omega)];simp
theorem q4e (hj:¬ j < s.ls.length):tX s j++jf 8 s.ps=told s:=by unfold tX told;rw [List.take_of_length_le (l:=s.ls) (by omega)]
theorem wz {α:Type} {f:α→List Nat} {k:Nat} (h:∀ x,(f x).length=k) (l:List α) (j:Nat):((l.take j).flatMap f).length≤k * l.length:=by
 rw [qjl h];exact Nat.mul_le_mul_left _ (by rw [List.length_take];omega)
theorem Xk (s:St):(t2 s).length=32:=by simp only [t2,t1,List.length_append,qc1,List.length_cons,List.length_nil]
theorem Yv (hr:Lens s) (j:Nat):(tO s j).length≤5000:=by
 have:=wz (f:=xu) (k:=61) (fun o=>by simp only [xu,List.length_append,qc1,List.length_cons,List.length_nil]) s.os j
 have:=hr.o
 simp only [tO,List.length_append,Xk];omega
theorem qpy (hr:Lens s) (j:Nat):(tC s j).length≤6000:=by
 have:=wz (f:=Fv) (k:=8) (fun o=>by simp only [Fv,qc1,List.length_cons,List.length_nil]) s.cs j
 have:=hr.o;have:=hr.c.2
 simp only [tC,List.length_append,Xk,qhv];omega
theorem Xl (hr:Lens s) (j:Nat):(tX s j).length≤9000:=by
 have:=wz (f:=Ie) (k:=24) (fun o=>by simp only [Ie,qc1,List.length_cons,List.length_nil]) s.ls j
 have:=hr.o;have:=hr.c.2;have:=hr.l.2
 simp only [tX,List.length_append,Xk,qhv,qmt];omega
theorem qn2 (hr:Lens s) (j:Nat):(Xh s j).length≤6000∧(Xi s j).length≤6000∧(Xj s j).length≤6000:=by
 have:=Yv hr j
 simp only [Xj,Xi,Xh,List.length_append,qc1,List.length_cons,List.length_nil];omega
end
theorem q7w (b:Bool)  (w:World):Calls Tryz.prog 51 #[.bool b] w fun e w'=>e = .returned (.int .i64 (flag b))∧Below w.heap.size w w' :=
 uw (fn:=Tryz.f51) (r:=.int .i64 (flag b)) (t:=.s .z .z) (X :=
(b=true→((.int .i64 1:Value) = .int .i64 (flag b)))∧(b=false→((.int .i64 0:Value) = .int .i64 (flag b)))) Tryz.func51 (by kernel_rfl)
 (⟨fun h1=>(by unfold flag;rw [if_pos h1]),
 fun h1=>(by unfold flag;rw [if_neg (by rw [h1];decide)])⟩)
theorem qy1 (a y n:Nat)  (w:World) (ha:a≤8) (hy:y≤8) (hn:n≤64):Calls Tryz.prog 26 #[.int .i64 (a:Int),.int .i64 (y:Int),.int .i64 (n:Int)] w fun e w'=>e = .returned (.int .i64 ((32+n * 61+a * y * 32+a * 8+4:Nat):Int))∧Below w.heap.size w w' :=
 have hay:a * y≤8 * 8:=Nat.mul_le_mul ha hy
 uw (fn:=Tryz.f26) (r:=.int .i64 ((32+n * 61+a * y * 32+a * 8+4:Nat):Int)) (t:=let k1:=(32+(n * 61:Nat):Nat);let k0:=(k1+(a * y * 32:Nat):Nat);let k2:=(k0+(a * 8:Nat):Nat); .e (.int .i64 ((n * 61:Nat):Int)) (.e (.int .i64 (k1:Int)) (.e (.int .i64 ((a * y:Nat):Int)) (.e (.int .i64 ((a * y * 32:Nat):Int)) (.e (.int .i64 (k0:Int)) (.e (.int .i64 ((a * 8:Nat):Int)) (.e (.int .i64 (k2:Int)) (.e (.int .i64 ((k2+4:Nat):Int)) .z)))))))) (X :=
 let k4:=(n * 61:Nat);let k2:=(32+k4:Nat);let k3:=(a * y * 32:Nat);let k0:=(k2+k3:Nat);let k1:=(k0+(a * 8:Nat):Nat);(.int .i64 (IntKind.i64.wrap ((n:Int) * 61)):Value) = .int .i64 (k4:Int)∧(.int .i64 (IntKind.i64.wrap (32+(k4:Int))):Value) = .int .i64 (k2:Int)∧(.int .i64 (IntKind.i64.wrap ((a:Int) * (y:Int))):Value) = .int .i64 ((a * y:Nat):Int)∧(.int .i64 (IntKind.i64.wrap (((a * y:Nat):Int) * 32)):Value) = .int .i64 (k3:Int)∧(.int .i64 (IntKind.i64.wrap ((k2:Int)+(k3:Int))):Value) = .int .i64 (k0:Int)∧(.int .i64 (IntKind.i64.wrap ((a:Int) * 8)):Value) = .int .i64 ((a * 8:Nat):Int)∧(.int .i64 (IntKind.i64.wrap ((k0:Int)+((a * 8:Nat):Int))):Value) = .int .i64 (k1:Int)∧(.int .i64 (IntKind.i64.wrap ((k1:Int)+4)):Value) = .int .i64 ((k1+4:Nat):Int)∧((.int .i64 ((k1+4:Nat):Int):Value) = .int .i64 ((32+n * 61+a * y * 32+a * 8+4:Nat):Int))) Tryz.func26 (by kernel_rfl)
 (⟨lg (by omega) (by omega) (by omega),⟨lg (by omega) (by omega) (by omega),⟨lg (Int.natCast_mul a y).symm (by omega) (by omega),⟨lg (by rw [Int.natCast_mul];rfl) (by omega) (by omega),⟨lg (by omega) (by omega) (by omega),⟨lg (by omega) (by omega) (by omega),⟨lg (by omega) (by omega) (by omega),⟨lg (by omega) (by omega) (by omega),rfl⟩⟩⟩⟩⟩⟩⟩⟩)
section
variable {w0:World} {D:List Fact} {s:St}
theorem qy2 {b:Bool} : iq Tryz.prog w0 D 51 #[.bool b] (.int .i64 (flag b)):=fun w _ _=>q7w b w
theorem qy3 (h:Lens s):iq Tryz.prog w0 D 26 #[.int .i64 s.a,.int .i64 s.y,.int .i64 (s.os.length:Int)] (.int .i64 ((Ig s:Nat):Int)):=fun w _ _=>by
 obtain ⟨a,ha⟩:∃ a:Nat,s.a=(a:Int):=⟨s.a.toNat,by have:=h.a;omega⟩
 obtain ⟨y,hy⟩:∃ y:Nat,s.y=(y:Int):=⟨s.y.toNat,by have:=h.y;omega⟩
 have h1:=h.a;have h2:=h.y;have h3:=h.o
 have:=qy1 a y s.os.length w (by omega) (by omega) (by omega)
 unfold Ig
 rw [ha,hy,Int.toNat_natCast,Int.toNat_natCast]
 exact this
end
set_option maxHeartbeats 4000000 in
theorem q7x (v:Sv) (s:St)  (w:World) (h:lu w (Lt w.heap.size) v s) (hr:Lens s):Calls Tryz.prog 21 #[.agg (bg v s)] w fun e w' => ∃ x:Option Addr × Nat,e = .returned (.slice x.1 (ak (told s)).length x.2)∧Below w.heap.size w w'∧xq (fun _=>False) w.heap.size ([ah (bf .u8) 1 5 x.1 (ak (told s)).length x.2 (ak (told s))]) w' :=
 have ho:=hr.o;have hcl:=hr.c.2;have hll:=hr.l.2;have hpl:=hr.p;have ha8:=hr.a
 Le (fn:=Tryz.f21) (r:=fun (x:Option Addr × Nat)=>.slice x.1 (ak (told s)).length x.2) (fs:=fun (x:Option Addr × Nat)=>[ah (bf .u8) 1 5 x.1 (ak (told s)).length x.2 (ak (told s))]) (t:=let k0:=Option Addr × Nat;let k4:=(s.os.length:Int);let k1:=[s.a,s.y,(flag s.k),k4].length;let k2:=[s.last,s.seq,s.ng].length;let k3:=(Ig s:Nat); .c (.int .i64 (k3:Int)) (.w (Nat) none (fun x=>.slice (some ⟨x,0,none⟩) 0 k3) (fun x=>[ah (bf .u8) 1 5 (some ⟨x,0,none⟩) 0 k3 ([])]) (fun x1=>.w (Unit) (some 0) (fun x=>.slice (some ⟨x1,0,none⟩) 4 k3) (fun x=>[ah (bf .u8) 1 5 (some ⟨x1,0,none⟩) 4 k3 (ak [115,110,97,102])]) (fun x2=>.ow [] [] (.k (.c (.int .i64 (flag s.k)) (.w (Nat) none (fun x=>.slice (some ⟨x,0,none⟩) k1 k1) (fun x=>[ah (bf .i64) 1 3 (some ⟨x,0,none⟩) k1 k1 ([s.a,s.y,(flag s.k),k4])]) (fun x3=>.cD none k0 (fun x=>.slice x.1 ((ak (t1 s)).length) x.2) (fun x=>#[]) (fun x=>[ah (bf .u8) 1 5 x.1 ((ak (t1 s)).length) x.2 (ak (t1 s))]) (fun x4=>.w (Nat) none (fun x=>.slice (some ⟨x,0,none⟩) k2 k2) (fun x=>[oI (some ⟨x,0,none⟩) k2 k2 ([s.last,s.seq,s.ng])]) (fun x5=>.cD none k0 (fun x=>.slice x.1 ((ak (t2 s)).length) x.2) (fun x=>#[]) (fun x=>[ah (bf .u8) 1 5 x.1 ((ak (t2 s)).length) x.2 (ak (t2 s))]) (fun x6=>.l (Nat × k0) (fun x=>[(1,undef,some (0,0)),(3,.slice x.2.1 ((ak (tO s x.1)).length) x.2.2,none),(44,.slice v.A1 s.os.length v.c1,none),(45,.int .i64 k4,none),(46,.int .i64 (x.1:Int),none)]) (fun x=>[]) [0] [] (fun x=>[ah (bf .u8) 1 5 x.2.1 ((ak (tO s x.1)).length) x.2.2 (ak (tO s x.1))]) (fun x=>x.1≤s.os.length) (fun x=>s.os.length - x.1) ((0,(x6.1,x6.2)):Nat × k0) (fun y7=>let k5:=s.os.getD y7.1 order.oz;let k6:=[k5.q,k5.p,k5.f,k5.m,k5.r,k5.v].length;let k7:=[k5.a,k5.y,k5.d,k5.h].length;let k8:=[(flag (k5.g))].length;let k9:=[k5.i].length;let k10:=ak (Xh s y7.1);let k11:=ak (Xi s y7.1);let k12:=ak (Xj s y7.1);let k13:=ak (Yt s y7.1); .s (.p (au v.A1) (ay v.A1+y7.1 * 12) (order.oc k5) (.w (Nat) none (fun x=>.slice (some ⟨x,0,none⟩) k9 k9) (fun x=>[oI (some ⟨x,0,none⟩) k9 k9 ([k5.i])]) (fun x11=>.cD none k0 (fun x=>.slice x.1 (k10.length) x.2) (fun x=>#[]) (fun x=>[ah (bf .u8) 1 5 x.1 (k10.length) x.2 k10]) (fun x12=>.w (Nat) none (fun x=>.slice (some ⟨x,0,none⟩) k7 k7) (fun x=>[ah (bf .i64) 1 3 (some ⟨x,0,none⟩) k7 k7 ([k5.a,k5.y,k5.d,k5.h])]) (fun Cc=>.cD none k0 (fun x=>.slice x.1 (k11.length) x.2) (fun x=>#[]) (fun x=>[ah (bf .u8) 1 5 x.1 (k11.length) x.2 k11]) (fun x14=>.w (Nat) none (fun x=>.slice (some ⟨x,0,none⟩) k6 k6) (fun x=>[oI (some ⟨x,0,none⟩) k6 k6 ([k5.q,k5.p,k5.f,k5.m,k5.r,k5.v])]) (fun x15=>.cD none k0 (fun x=>.slice x.1 (k12.length) x.2) (fun x=>#[]) (fun x=>[ah (bf .u8) 1 5 x.1 (k12.length) x.2 k12]) (fun x16=>.k (.c (.int .i64 (flag (k5.g))) (.w (Nat) none (fun x=>.slice (some ⟨x,0,none⟩) k8 k8) (fun x=>[ah (bf .i64) 1 3 (some ⟨x,0,none⟩) k8 k8 ([(flag (k5.g))])]) (fun x17=>.cD none k0 (fun x=>.slice x.1 (k13.length) x.2) (fun x=>#[]) (fun x=>[ah (bf .u8) 1 5 x.1 (k13.length) x.2 k13]) (fun x18=>.e (.int .i64 ((y7.1+1:Nat):Int)) .z)))))))))))) (.l (Nat × k0) (fun x=>[(1,undef,some (0,0)),(3,.slice x.2.1 ((ak (tC s x.1)).length) x.2.2,none),(89,.slice v.A2 s.cs.length v.c2,none),(90,.int .i64 (s.cs.length:Int),none),(91,.int .i64 (x.1:Int),none)]) (fun x=>[]) [0] [] (fun x=>[ah (bf .u8) 1 5 x.2.1 ((ak (tC s x.1)).length) x.2.2 (ak (tC s x.1))]) (fun x=>x.1≤s.cs.length) (fun x=>s.cs.length - x.1) ((0,(y7.2.1,y7.2.2)):Nat × k0) (fun Aq=>let k14:=s.cs.getD Aq.1 cell.cz;let k15:=[k14.p].length;let k16:=ak (tC1 s Aq.1); .s (.p (au v.A2) (ay v.A2+Aq.1 * 4) (cell.cc k14) (.w (Nat) none (fun x=>.slice (some ⟨x,0,none⟩) k15 k15) (fun x=>[oI (some ⟨x,0,none⟩) k15 k15 ([k14.p])]) (fun x23=>.cD none k0 (fun x=>.slice x.1 (k16.length) x.2) (fun x=>#[]) (fun x=>[ah (bf .u8) 1 5 x.1 (k16.length) x.2 k16]) (fun x24=>.e (.int .i64 ((Aq.1+1:Nat):Int)) .z)))) (.l (Nat × k0) (fun x=>[(1,undef,some (0,0)),(3,.slice x.2.1 ((ak (tX s x.1)).length) x.2.2,none),(102,.slice v.A3 s.ls.length v.c3,none),(103,.int .i64 (s.ls.length:Int),none),(104,.int .i64 (x.1:Int),none)]) (fun x=>[]) [0] [] (fun x=>[ah (bf .u8) 1 5 x.2.1 ((ak (tX s x.1)).length) x.2.2 (ak (tX s x.1))]) (fun x=>x.1≤s.ls.length) (fun x=>s.ls.length - x.1) ((0,(Aq.2.1,Aq.2.2)):Nat × k0) (fun y25=>let k17:=s.ls.getD y25.1 Ai;let k18:=[k17.l,k17.s,k17.n].length;let k19:=ak ((tX s y25.1)++jf 8 s.ps);let k20:=ak (tX1 s y25.1); .s (.p (au v.A3) (ay v.A3+y25.1 * 3) (cell.xc k17) (.w (Nat) none (fun x=>.slice (some ⟨x,0,none⟩) k18 k18) (fun x=>[oI (some ⟨x,0,none⟩) k18 k18 ([k17.l,k17.s,k17.n])]) (fun x29=>.cD none k0 (fun x=>.slice x.1 (k20.length) x.2) (fun x=>#[]) (fun x=>[ah (bf .u8) 1 5 x.1 (k20.length) x.2 k20]) (fun Dh=>.e (.int .i64 ((y25.1+1:Nat):Int)) .z)))) (.cD none k0 (fun x=>.slice x.1 (k19.length) x.2) (fun x=>#[]) (fun x=>[ah (bf .u8) 1 5 x.1 (k19.length) x.2 k19]) (fun x31=>.z)))))))))))))))))) (X :=
 let k0:=Option Addr × Nat;let k3:=(s.os.length:Int);let k1:=[s.a,s.y,(flag s.k),k3].length;let k2:=[s.last,s.seq,s.ng].length;let k4:=(Ig s:Nat);let k5:=(ak (t1 s)).length;let k6:=ak [115,110,97,102];let k7:=(s.cs.length:Int);let k8:=(s.ls.length:Int);let k9:=(ak (t2 s)).length;let k10:=[s.a,s.y,(flag s.k),k3]; ∀ g0:Nat,let k11:=([some ⟨g0,0,(bg v s),.own 27⟩]:List (Option jv));let k12:Option Addr:=some ⟨g0,0,none⟩;iq Tryz.prog w [] 26 #[.int .i64 s.a,.int .i64 s.y,.int .i64 k3] (.int .i64 (k4:Int))∧jw Tryz.prog w [] (Instr.makeSlice 28 (.int .i64 0) (.int .i64 (k4:Int))) (fun _=>False) (Nat) (fun x=>.slice (some ⟨x,0,none⟩) 0 k4) (fun x=>[ah (bf .u8) 1 5 (some ⟨x,0,none⟩) 0 k4 ([])])∧∀ x1:Nat,let k13:Option Addr:=some ⟨x1,0,none⟩;let k14:List Fact:=[ah (bf .u8) 1 5 k13 4 k4 k6];jw Tryz.prog w [ah (bf .u8) 1 5 k13 0 k4 ([])] (Builtin.append_ #[28,9] 28 #[.slice k13 0 k4,.string ⟨#[115,110,97,102]⟩]) ((ah (bf .u8) 1 5 k13 0 k4 ([])).S) (Unit) (fun x=>.slice k13 4 k4) (fun x=>k14)∧∀ x2:Unit,qp w k14 []∧iq Tryz.prog w k14 51 #[.bool s.k] (.int .i64 (flag s.k))∧jw Tryz.prog w k14 (Instr.buildSlice 118 4 #[(0,.int .i64 s.a),(1,.int .i64 s.y),(2,.int .i64 (flag s.k)),(3,.int .i64 k3)]) (fun _=>False) (Nat) (fun x=>.slice (some ⟨x,0,none⟩) k1 k1) (fun x=>[ah (bf .i64) 1 3 (some ⟨x,0,none⟩) k1 k1 k10])∧∀ x3:Nat,(∀ x:Option Addr × Nat,qp w [ah (bf .u8) 1 5 x.1 k5 x.2 (ak (t1 s))] [])∧qm Tryz.prog w [ah (bf .i64) 1 3 (some ⟨x3,0,none⟩) k1 k1 k10,ah (bf .u8) 1 5 k13 4 k4 k6] 50 #[.slice k13 4 k4,.int .i64 1,.slice (some ⟨x3,0,none⟩) k1 k1] k0 (fun x=>.slice x.1 k5 x.2) (fun x=>[ah (bf .u8) 1 5 x.1 k5 x.2 (ak (t1 s))])∧∀ x4:Option Addr × Nat,jw Tryz.prog w [ah (bf .u8) 1 5 x4.1 k5 x4.2 (ak (t1 s))] (Instr.buildSlice 25 3 #[(0,.int .i64 s.last),(1,.int .i64 s.seq),(2,.int .i64 s.ng)]) (fun _=>False) (Nat) (fun x=>.slice (some ⟨x,0,none⟩) k2 k2) (fun x=>[oI (some ⟨x,0,none⟩) k2 k2 ([s.last,s.seq,s.ng])])∧∀ x5:Nat,qm Tryz.prog w [oI (some ⟨x5,0,none⟩) k2 k2 ([s.last,s.seq,s.ng]),ah (bf .u8) 1 5 x4.1 k5 x4.2 (ak (t1 s))] 52 #[.slice x4.1 k5 x4.2,.int .i64 8,.slice (some ⟨x5,0,none⟩) k2 k2] k0 (fun x=>.slice x.1 k9 x.2) (fun x=>[ah (bf .u8) 1 5 x.1 k9 x.2 (ak (t2 s))])∧∀ x6:Option Addr × Nat,let k15:=((0,(x6.1,x6.2)):Nat × k0);let k16:List Fact:=[ah (bf .u8) 1 5 x6.1 k9 x6.2 (ak (t2 s))];let k17:=ak (tO s k15.1);xg w k16 []∧(k15.1≤s.os.length)∧(([.pointer k12,.slice x6.1 k9 x6.2,.slice v.A1 s.os.length v.c1,.int .i64 k3,.int .i64 0]:List Value)=[.pointer k12,.slice (k15.2.1) (k17.length) (k15.2.2),.slice v.A1 s.os.length v.c1,.int .i64 k3,.int .i64 (k15.1:Int)]∧k11=[some ⟨g0,0,(bg v s),.own 27⟩]∧iw w k16 [ah (bf .u8) 1 5 (k15.2.1) (k17.length) (k15.2.2) k17])∧true=true∧∀ (y7:Nat × k0),let k18:=s.os.getD y7.1 order.oz;let k19:=[k18.q,k18.p,k18.f,k18.m,k18.r,k18.v].length;let k20:=((0,(y7.2.1,y7.2.2)):Nat × k0);let k21:=[k18.a,k18.y,k18.d,k18.h].length;let k29:=ak (tO s y7.1);let k22:List Fact:=[ah (bf .u8) 1 5 y7.2.1 (k29.length) y7.2.2 k29];let k30:=flag (k18.g);let k23:=[k30].length;let k24:=ak (Xj s y7.1);let k25:=ak (Xh s y7.1);let k26:=ak (Xi s y7.1);let k27:=[k18.i].length;let k28:=ak (Yt s y7.1);let k31:=[k18.q,k18.p,k18.f,k18.m,k18.r,k18.v];let k32:=ak (tC s k20.1);let k33:=[k18.a,k18.y,k18.d,k18.h];let k34:=decide ((y7.1:Int) < k3);(y7.1≤s.os.length)→∀ τ9:Nat→Value,(k34=true→jd Tryz.prog w k22 (Instr.indexAt 22 (.slice v.A1 s.os.length v.c1) (.int .i64 (y7.1:Int))) (.pointer (some ⟨au v.A1,ay v.A1+y7.1 * 12,none⟩))∧o7 w [] (au v.A1) (ay v.A1+y7.1 * 12) (order.oc k18)∧∀ g2:Nat,jw Tryz.prog w k22 (Instr.buildSlice 25 1 #[(0,.int .i64 (k18.i))]) (fun _=>False) (Nat) (fun x=>.slice (some ⟨x,0,none⟩) k27 k27) (fun x=>[oI (some ⟨x,0,none⟩) k27 k27 ([k18.i])])∧∀ x11:Nat,qm Tryz.prog w [oI (some ⟨x11,0,none⟩) k27 k27 ([k18.i]),ah (bf .u8) 1 5 y7.2.1 (k29.length) y7.2.2 k29] 52 #[.slice y7.2.1 (k29.length) y7.2.2,.int .i64 8,.slice (some ⟨x11,0,none⟩) k27 k27] k0 (fun x=>.slice x.1 (k25.length) x.2) (fun x=>[ah (bf .u8) 1 5 x.1 (k25.length) x.2 k25])∧∀ x12:Option Addr × Nat,jw Tryz.prog w [ah (bf .u8) 1 5 x12.1 (k25.length) x12.2 k25] (Instr.buildSlice 118 4 #[(0,.int .i64 (k18.a)),(1,.int .i64 (k18.y)),(2,.int .i64 (k18.d)),(3,.int .i64 (k18.h))]) (fun _=>False) (Nat) (fun x=>.slice (some ⟨x,0,none⟩) k21 k21) (fun x=>[ah (bf .i64) 1 3 (some ⟨x,0,none⟩) k21 k21 k33])∧∀ Cc:Nat,qm Tryz.prog w [ah (bf .i64) 1 3 (some ⟨Cc,0,none⟩) k21 k21 k33,ah (bf .u8) 1 5 x12.1 (k25.length) x12.2 k25] 50 #[.slice x12.1 (k25.length) x12.2,.int .i64 1,.slice (some ⟨Cc,0,none⟩) k21 k21] k0 (fun x=>.slice x.1 (k26.length) x.2) (fun x=>[ah (bf .u8) 1 5 x.1 (k26.length) x.2 k26])∧∀ x14:Option Addr × Nat,jw Tryz.prog w [ah (bf .u8) 1 5 x14.1 (k26.length) x14.2 k26] (Instr.buildSlice 25 6 #[(0,.int .i64 (k18.q)),(1,.int .i64 (k18.p)),(2,.int .i64 (k18.f)),(3,.int .i64 (k18.m)),(4,.int .i64 (k18.r)),(5,.int .i64 (k18.v))]) (fun _=>False) (Nat) (fun x=>.slice (some ⟨x,0,none⟩) k19 k19) (fun x=>[oI (some ⟨x,0,none⟩) k19 k19 k31])∧∀ x15:Nat,qm Tryz.prog w [oI (some ⟨x15,0,none⟩) k19 k19 k31,ah (bf .u8) 1 5 x14.1 (k26.length) x14.2 k26] 52 #[.slice x14.1 (k26.length) x14.2,.int .i64 8,.slice (some ⟨x15,0,none⟩) k19 k19] k0 (fun x=>.slice x.1 (k24.length) x.2) (fun x=>[ah (bf .u8) 1 5 x.1 (k24.length) x.2 k24])∧∀ x16:Option Addr × Nat,let Ad:List Fact:=[ah (bf .u8) 1 5 x16.1 (k24.length) x16.2 k24];iq Tryz.prog w Ad 51 #[.bool (k18.g)] (.int .i64 k30)∧jw Tryz.prog w Ad (Instr.buildSlice 118 1 #[(0,.int .i64 k30)]) (fun _=>False) (Nat) (fun x=>.slice (some ⟨x,0,none⟩) k23 k23) (fun x=>[ah (bf .i64) 1 3 (some ⟨x,0,none⟩) k23 k23 ([k30])])∧∀ x17:Nat,qm Tryz.prog w [ah (bf .i64) 1 3 (some ⟨x17,0,none⟩) k23 k23 ([k30]),ah (bf .u8) 1 5 x16.1 (k24.length) x16.2 k24] 50 #[.slice x16.1 (k24.length) x16.2,.int .i64 1,.slice (some ⟨x17,0,none⟩) k23 k23] k0 (fun x=>.slice x.1 (k28.length) x.2) (fun x=>[ah (bf .u8) 1 5 x.1 (k28.length) x.2 k28])∧∀ x18:Option Addr × Nat,(.int .i64 (IntKind.i64.wrap ((y7.1:Int)+1)):Value) = .int .i64 ((y7.1+1:Nat):Int)∧∃ x' : Nat × k0,(x'.1≤s.os.length)∧(s.os.length - x'.1 < s.os.length - y7.1)∧(([.pointer k12,.slice x18.1 (k28.length) x18.2,.slice v.A1 s.os.length v.c1,.int .i64 k3,.int .i64 ((y7.1+1:Nat):Int)]:List Value)=[.pointer k12,.slice x'.2.1 ((ak (tO s x'.1)).length) x'.2.2,.slice v.A1 s.os.length v.c1,.int .i64 k3,.int .i64 (x'.1:Int)]∧k11=[some ⟨g0,0,(bg v s),.own 27⟩]∧iw w [ah (bf .u8) 1 5 x18.1 (k28.length) x18.2 k28] [ah (bf .u8) 1 5 x'.2.1 ((ak (tO s x'.1)).length) x'.2.2 (ak (tO s x'.1))])∧true=true)∧(k34=false→xg w k22 []∧(k20.1≤s.cs.length)∧(([.pointer k12,.slice y7.2.1 (k29.length) y7.2.2,.slice v.A2 s.cs.length v.c2,.int .i64 k7,.int .i64 0]:List Value)=[.pointer k12,.slice (k20.2.1) (k32.length) (k20.2.2),.slice v.A2 s.cs.length v.c2,.int .i64 k7,.int .i64 (k20.1:Int)]∧k11=[some ⟨g0,0,(bg v s),.own 27⟩]∧iw w k22 [ah (bf .u8) 1 5 (k20.2.1) (k32.length) (k20.2.2) k32])∧true=true∧∀ (Aq:Nat × k0),let Aj:=((0,(Aq.2.1,Aq.2.2)):Nat × k0);let k39:=s.cs.getD Aq.1 cell.cz;let k37:=[k39.p].length;let zx:=ak (tC s Aq.1);let k38:List Fact:=[ah (bf .u8) 1 5 Aq.2.1 (zx.length) Aq.2.2 zx];let l9:=ak (tC1 s Aq.1);let uz:=ak (tX s Aj.1);let uf:=decide ((Aq.1:Int) < k7);(Aq.1≤s.cs.length)→∀ τ21:Nat→Value,(uf=true→jd Tryz.prog w k38 (Instr.indexAt 23 (.slice v.A2 s.cs.length v.c2) (.int .i64 (Aq.1:Int))) (.pointer (some ⟨au v.A2,ay v.A2+Aq.1 * 4,none⟩))∧o7 w [] (au v.A2) (ay v.A2+Aq.1 * 4) (cell.cc k39)∧∀ g2:Nat,jw Tryz.prog w k38 (Instr.buildSlice 25 1 #[(0,.int .i64 (k39.p))]) (fun _=>False) (Nat) (fun x=>.slice (some ⟨x,0,none⟩) k37 k37) (fun x=>[oI (some ⟨x,0,none⟩) k37 k37 ([k39.p])])∧∀ x23:Nat,qm Tryz.prog w [oI (some ⟨x23,0,none⟩) k37 k37 ([k39.p]),ah (bf .u8) 1 5 Aq.2.1 (zx.length) Aq.2.2 zx] 52 #[.slice Aq.2.1 (zx.length) Aq.2.2,.int .i64 8,.slice (some ⟨x23,0,none⟩) k37 k37] k0 (fun x=>.slice x.1 (l9.length) x.2) (fun x=>[ah (bf .u8) 1 5 x.1 (l9.length) x.2 l9])∧∀ x24:Option Addr × Nat,(.int .i64 (IntKind.i64.wrap ((Aq.1:Int)+1)):Value) = .int .i64 ((Aq.1+1:Nat):Int)∧∃ x' : Nat × k0,(x'.1≤s.cs.length)∧(s.cs.length - x'.1 < s.cs.length - Aq.1)∧(([.pointer k12,.slice x24.1 (l9.length) x24.2,.slice v.A2 s.cs.length v.c2,.int .i64 k7,.int .i64 ((Aq.1+1:Nat):Int)]:List Value)=[.pointer k12,.slice x'.2.1 ((ak (tC s x'.1)).length) x'.2.2,.slice v.A2 s.cs.length v.c2,.int .i64 k7,.int .i64 (x'.1:Int)]∧k11=[some ⟨g0,0,(bg v s),.own 27⟩]∧iw w [ah (bf .u8) 1 5 x24.1 (l9.length) x24.2 l9] [ah (bf .u8) 1 5 x'.2.1 ((ak (tC s x'.1)).length) x'.2.2 (ak (tC s x'.1))])∧true=true)∧(uf=false→xg w k38 []∧(Aj.1≤s.ls.length)∧(([.pointer k12,.slice Aq.2.1 (zx.length) Aq.2.2,.slice v.A3 s.ls.length v.c3,.int .i64 k8,.int .i64 0]:List Value)=[.pointer k12,.slice (Aj.2.1) (uz.length) (Aj.2.2),.slice v.A3 s.ls.length v.c3,.int .i64 k8,.int .i64 (Aj.1:Int)]∧k11=[some ⟨g0,0,(bg v s),.own 27⟩]∧iw w k38 [ah (bf .u8) 1 5 (Aj.2.1) (uz.length) (Aj.2.2) uz])∧true=true∧∀ (y25:Nat × k0),let Dt:=s.ls.getD y25.1 Ai;let Ag:=[Dt.l,Dt.s,Dt.n].length;let Ee:=ak ((tX s y25.1)++jf 8 s.ps);let G9:=ak (tX s y25.1);let Ef:List Fact:=[ah (bf .u8) 1 5 y25.2.1 (G9.length) y25.2.2 G9];let Gs:=ak (tX1 s y25.1);let He:=decide ((y25.1:Int) < k8);(y25.1≤s.ls.length)→∀ τ27:Nat→Value,(He=true→jd Tryz.prog w Ef (Instr.indexAt 24 (.slice v.A3 s.ls.length v.c3) (.int .i64 (y25.1:Int))) (.pointer (some ⟨au v.A3,ay v.A3+y25.1 * 3,none⟩))∧o7 w [] (au v.A3) (ay v.A3+y25.1 * 3) (cell.xc Dt)∧∀ g2:Nat,jw Tryz.prog w Ef (Instr.buildSlice 25 3 #[(0,.int .i64 (Dt.l)),(1,.int .i64 (Dt.s)),(2,.int .i64 (Dt.n))]) (fun _=>False) (Nat) (fun x=>.slice (some ⟨x,0,none⟩) Ag Ag) (fun x=>[oI (some ⟨x,0,none⟩) Ag Ag ([Dt.l,Dt.s,Dt.n])])∧∀ x29:Nat,qm Tryz.prog w [oI (some ⟨x29,0,none⟩) Ag Ag ([Dt.l,Dt.s,Dt.n]),ah (bf .u8) 1 5 y25.2.1 (G9.length) y25.2.2 G9] 52 #[.slice y25.2.1 (G9.length) y25.2.2,.int .i64 8,.slice (some ⟨x29,0,none⟩) Ag Ag] k0 (fun x=>.slice x.1 (Gs.length) x.2) (fun x=>[ah (bf .u8) 1 5 x.1 (Gs.length) x.2 Gs])∧∀ Dh:Option Addr × Nat,(.int .i64 (IntKind.i64.wrap ((y25.1:Int)+1)):Value) = .int .i64 ((y25.1+1:Nat):Int)∧∃ x' : Nat × k0,(x'.1≤s.ls.length)∧(s.ls.length - x'.1 < s.ls.length - y25.1)∧(([.pointer k12,.slice Dh.1 (Gs.length) Dh.2,.slice v.A3 s.ls.length v.c3,.int .i64 k8,.int .i64 ((y25.1+1:Nat):Int)]:List Value)=[.pointer k12,.slice x'.2.1 ((ak (tX s x'.1)).length) x'.2.2,.slice v.A3 s.ls.length v.c3,.int .i64 k8,.int .i64 (x'.1:Int)]∧k11=[some ⟨g0,0,(bg v s),.own 27⟩]∧iw w [ah (bf .u8) 1 5 Dh.1 (Gs.length) Dh.2 Gs] [ah (bf .u8) 1 5 x'.2.1 ((ak (tX s x'.1)).length) x'.2.2 (ak (tX s x'.1))])∧true=true)∧(He=false→qm Tryz.prog w Ef 52 #[.slice y25.2.1 (G9.length) y25.2.2,.int .i64 8,.slice v.A4 s.ps.length v.c4] k0 (fun x=>.slice x.1 (Ee.length) x.2) (fun x=>[ah (bf .u8) 1 5 x.1 (Ee.length) x.2 Ee])∧∀ x31:Option Addr × Nat,∃ x:Option Addr × Nat,(.slice x31.1 (Ee.length) x31.2:Value) = .slice x.1 (ak (told s)).length x.2∧iw w [ah (bf .u8) 1 5 x31.1 (Ee.length) x31.2 Ee] ([ah (bf .u8) 1 5 x.1 (ak (told s)).length x.2 (ak (told s))]))))) Tryz.func21 (by kernel_rfl)
 (fun g0=>⟨(qy3 hr),⟨(q19 Tryz.underlying28 y9 (by omega) (by have:=Yu hr;omega)),fun x1=>⟨(qxh Tryz.underlying28 Tryz.underlying9 y9 rfl rfl (by have:=Yu hr;omega) (j:=0) rfl),fun x2=>⟨fun _ _ _=>trivial,⟨qy2,⟨(qc6 (xs:=[s.a,s.y,(flag s.k),(s.os.length:Int)]) (by kernel_rfl) (fun g=>by kernel_rfl) (Bq (rec.wf64 h.fine.1) (Bq (rec.wf64 h.fine.2.1) (Bq (rec.wf64 (qpw _)) (Bq (rec.wf64 (by unfold frame.jh;omega)) Ov)))) (by simp only [List.length_cons,List.length_nil];omega)),fun x3=>⟨fun x w _ ha=>trivial,(Uh (fun x=>(jm (.cons_cons _ (List.nil_sublist _)))) (bn (Q:=[]) (oq [1,0] (by decide) rfl) (ql7 ((some ⟨x1,0,none⟩),(Ig s:Nat)) ((some ⟨x3,0,none⟩),[s.a,s.y,(flag s.k),(s.os.length:Int)].length) ([115,110,97,102]) ([s.a,s.y,(flag s.k),(s.os.length:Int)]) 1 w ⟨(by decide),(by simp only [List.length_cons,List.length_nil];omega)⟩ (by omega)))),fun x4=>⟨(qc6 (xs:=[s.last,s.seq,s.ng]) (by kernel_rfl) (fun g=>by kernel_rfl) (Bq (rec.wf64 h.fine.2.2.1) (Bq (rec.wf64 h.fine.2.2.2.1) (Bq (rec.wf64 h.fine.2.2.2.2) Ov))) (by simp only [List.length_cons,List.length_nil];omega)),fun x5=>⟨(Uh (fun x=>(jm (.cons_cons _ (List.nil_sublist _)))) (bn (Q:=[]) (oq [1,0] (by decide) rfl) (qgt (x4.1,x4.2) ((some ⟨x5,0,none⟩),[s.last,s.seq,s.ng].length) (t1 s) ([s.last,s.seq,s.ng]) 8 w ⟨(by simp only [t1,List.length_append,qc1,List.length_cons,List.length_nil];omega),(by simp only [List.length_cons,List.length_nil];omega)⟩ (by omega)))),fun x6=>⟨(fun w _ _=>zh),(Nat.zero_le _),⟨(by have e:=qpx (s:=s);simp only [e]<;>rfl),rfl,(gq (by have e:=qpx (s:=s);simp only [e]<;>rfl) (oq (fs:=[ah (bf .u8) 1 5 x6.1 ((ak (t2 s)).length) x6.2 (ak (t2 s))]) [0] (by decide) rfl))⟩,rfl,fun y7 I8 τ9=>⟨fun h10=>have h10:(y7.1:Int) < (s.os.length:Int):=(by simpa using h10)
⟨(yw Tryz.underlying22 qbd Dv (Nat.le_refl _) h.o rfl (by omega)),(qa0 Dv (Nat.le_refl _) h.o (ou (by omega))),fun g2=>⟨(qc6 (xs:=[(s.os.getD y7.1 order.oz).i]) (by kernel_rfl) (fun g=>by kernel_rfl) (Bq (rec.wf64 (Bh h.o (s.os.getD y7.1 order.oz) (l7 (by omega))).1) Ov) (by simp only [List.length_cons,List.length_nil];omega)),fun x11=>⟨(Uh (fun x=>(jm (.cons_cons _ (List.nil_sublist _)))) (bn (Q:=[]) (oq [1,0] (by decide) rfl) (qgt (y7.2.1,y7.2.2) ((some ⟨x11,0,none⟩),[(s.os.getD y7.1 order.oz).i].length) (tO s y7.1) ([(s.os.getD y7.1 order.oz).i]) 8 w ⟨(Nat.le_trans (Yv hr y7.1) (by decide)),(by simp only [List.length_cons,List.length_nil];omega)⟩ (by omega)))),fun x12=>⟨(qc6 (xs:=[(s.os.getD y7.1 order.oz).a,(s.os.getD y7.1 order.oz).y,(s.os.getD y7.1 order.oz).d,(s.os.getD y7.1 order.oz).h]) (by kernel_rfl) (fun g=>by kernel_rfl) (Bq (rec.wf64 (Bh h.o (s.os.getD y7.1 order.oz) (l7 (by omega))).2.1) (Bq (rec.wf64 (Bh h.o (s.os.getD y7.1 order.oz) (l7 (by omega))).2.2.1) (Bq (rec.wf64 (Bh h.o (s.os.getD y7.1 order.oz) (l7 (by omega))).2.2.2.1) (Bq (rec.wf64 (Bh h.o (s.os.getD y7.1 order.oz) (l7 (by omega))).2.2.2.2.2.2.2.1) Ov)))) (by simp only [List.length_cons,List.length_nil];omega)),fun Cc=>⟨(Uh (fun x=>(jm (.cons_cons _ (List.nil_sublist _)))) (bn (Q:=[]) (oq [1,0] (by decide) rfl) (ql7 (x12.1,x12.2) ((some ⟨Cc,0,none⟩),[(s.os.getD y7.1 order.oz).a,(s.os.getD y7.1 order.oz).y,(s.os.getD y7.1 order.oz).d,(s.os.getD y7.1 order.oz).h].length) (Xh s y7.1) ([(s.os.getD y7.1 order.oz).a,(s.os.getD y7.1 order.oz).y,(s.os.getD y7.1 order.oz).d,(s.os.getD y7.1 order.oz).h]) 1 w ⟨(Nat.le_trans (qn2 hr y7.1).1 (by decide)),(by simp only [List.length_cons,List.length_nil];omega)⟩ (by omega)))),fun x14=>⟨(qc6 (xs:=[(s.os.getD y7.1 order.oz).q,(s.os.getD y7.1 order.oz).p,(s.os.getD y7.1 order.oz).f,(s.os.getD y7.1 order.oz).m,(s.os.getD y7.1 order.oz).r,(s.os.getD y7.1 order.oz).v]) (by kernel_rfl) (fun g=>by kernel_rfl) (Bq (rec.wf64 (Bh h.o (s.os.getD y7.1 order.oz) (l7 (by omega))).2.2.2.2.1) (Bq (rec.wf64 (Bh h.o (s.os.getD y7.1 order.oz) (l7 (by omega))).2.2.2.2.2.1) (Bq (rec.wf64 (Bh h.o (s.os.getD y7.1 order.oz) (l7 (by omega))).2.2.2.2.2.2.1) (Bq (rec.wf64 (Bh h.o (s.os.getD y7.1 order.oz) (l7 (by omega))).2.2.2.2.2.2.2.2.1) (Bq (rec.wf64 (Bh h.o (s.os.getD y7.1 order.oz) (l7 (by omega))).2.2.2.2.2.2.2.2.2.1) (Bq (rec.wf64 (Bh h.o (s.os.getD y7.1 order.oz) (l7 (by omega))).2.2.2.2.2.2.2.2.2.2) Ov)))))) (by simp only [List.length_cons,List.length_nil];omega)),fun x15=>⟨(Uh (fun x=>(jm (.cons_cons _ (List.nil_sublist _)))) (bn (Q:=[]) (oq [1,0] (by decide) rfl) (qgt (x14.1,x14.2) ((some ⟨x15,0,none⟩),[(s.os.getD y7.1 order.oz).q,(s.os.getD y7.1 order.oz).p,(s.os.getD y7.1 order.oz).f,(s.os.getD y7.1 order.oz).m,(s.os.getD y7.1 order.oz).r,(s.os.getD y7.1 order.oz).v].length) (Xi s y7.1) ([(s.os.getD y7.1 order.oz).q,(s.os.getD y7.1 order.oz).p,(s.os.getD y7.1 order.oz).f,(s.os.getD y7.1 order.oz).m,(s.os.getD y7.1 order.oz).r,(s.os.getD y7.1 order.oz).v]) 8 w ⟨(Nat.le_trans (qn2 hr y7.1).2.1 (by decide)),(by simp only [List.length_cons,List.length_nil];omega)⟩ (by omega)))),fun x16=>⟨qy2,⟨(qc6 (xs:=[(flag ((s.os.getD y7.1 order.oz).g))]) (by kernel_rfl) (fun g=>by kernel_rfl) (Bq (rec.wf64 (qpw _)) Ov) (by simp only [List.length_cons,List.length_nil];omega)),fun x17=>⟨(Uh (fun x=>(jm (.cons_cons _ (List.nil_sublist _)))) (bn (Q:=[]) (oq [1,0] (by decide) rfl) (ql7 (x16.1,x16.2) ((some ⟨x17,0,none⟩),[(flag ((s.os.getD y7.1 order.oz).g))].length) (Xj s y7.1) ([(flag ((s.os.getD y7.1 order.oz).g))]) 1 w ⟨(Nat.le_trans (qn2 hr y7.1).2.2 (by decide)),(by simp only [List.length_cons,List.length_nil];omega)⟩ (by omega)))),fun x18=>⟨lg (by omega) (by omega) (by omega),⟨((y7.1+1,(x18.1,x18.2)):Nat × (Option Addr × Nat)),(by dsimp only;omega),(by dsimp only;omega),⟨(by have e:=qsn (s:=s) (j:=y7.1) (by omega);simp only [e]<;>rfl),rfl,(gq (by have e:=qsn (s:=s) (j:=y7.1) (by omega);simp only [e]<;>rfl) (oq (fs:=[ah (bf .u8) 1 5 x18.1 ((ak (Yt s y7.1)).length) x18.2 (ak (Yt s y7.1))]) [0] (by decide) rfl))⟩,rfl⟩⟩⟩⟩⟩⟩⟩⟩⟩⟩⟩⟩,
 fun h10=>have h10:¬ (y7.1:Int) < (s.os.length:Int):=(by simpa using h10)
⟨(fun w _ _=>zh),(Nat.zero_le _),⟨(by have e:=qmu (s:=s) (j:=y7.1) (by omega);simp only [e]<;>rfl),rfl,(gq (by have e:=qmu (s:=s) (j:=y7.1) (by omega);simp only [e]<;>rfl) (oq (fs:=[ah (bf .u8) 1 5 y7.2.1 ((ak (tO s y7.1)).length) y7.2.2 (ak (tO s y7.1))]) [0] (by decide) rfl))⟩,rfl,fun Aq I20 τ21=>⟨fun h22=>have h22:(Aq.1:Int) < (s.cs.length:Int):=(by simpa using h22)
⟨(yw Tryz.underlying23 yg qa2 (Nat.le_refl _) h.c rfl (by omega)),(qa0 qa2 (Nat.le_refl _) h.c (ou (by omega))),fun g2=>⟨(qc6 (xs:=[(s.cs.getD Aq.1 cell.cz).p]) (by kernel_rfl) (fun g=>by kernel_rfl) (Bq (rec.wf64 (Jg h.c (s.cs.getD Aq.1 cell.cz) (l7 (by omega))).1) Ov) (by simp only [List.length_cons,List.length_nil];omega)),fun x23=>⟨(Uh (fun x=>(jm (.cons_cons _ (List.nil_sublist _)))) (bn (Q:=[]) (oq [1,0] (by decide) rfl) (qgt (Aq.2.1,Aq.2.2) ((some ⟨x23,0,none⟩),[(s.cs.getD Aq.1 cell.cz).p].length) (tC s Aq.1) ([(s.cs.getD Aq.1 cell.cz).p]) 8 w ⟨(Nat.le_trans (qpy hr Aq.1) (by decide)),(by simp only [List.length_cons,List.length_nil];omega)⟩ (by omega)))),fun x24=>⟨lg (by omega) (by omega) (by omega),⟨((Aq.1+1,(x24.1,x24.2)):Nat × (Option Addr × Nat)),(by dsimp only;omega),(by dsimp only;omega),⟨(by have e:=qso (s:=s) (j:=Aq.1) (by omega);simp only [e]<;>rfl),rfl,(gq (by have e:=qso (s:=s) (j:=Aq.1) (by omega);simp only [e]<;>rfl) (oq (fs:=[ah (bf .u8) 1 5 x24.1 ((ak (tC1 s Aq.1)).length) x24.2 (ak (tC1 s Aq.1))]) [0] (by decide) rfl))⟩,rfl⟩⟩⟩⟩⟩,
 fun h22=>have h22:¬ (Aq.1:Int) < (s.cs.length:Int):=(by simpa using h22)
⟨(fun w _ _=>zh),(Nat.zero_le _),⟨(by have e:=qmv (s:=s) (j:=Aq.1) (by omega);simp only [e]<;>rfl),rfl,(gq (by have e:=qmv (s:=s) (j:=Aq.1) (by omega);simp only [e]<;>rfl) (oq (fs:=[ah (bf .u8) 1 5 Aq.2.1 ((ak (tC s Aq.1)).length) Aq.2.2 (ak (tC s Aq.1))]) [0] (by decide) rfl))⟩,rfl,fun y25 I26 τ27=>⟨fun h28=>have h28:(y25.1:Int) < (s.ls.length:Int):=(by simpa using h28)
⟨(yw Tryz.underlying24 Es Gq (Nat.le_refl _) h.l rfl (by omega)),(qa0 Gq (Nat.le_refl _) h.l (ou (by omega))),fun g2=>⟨(qc6 (xs:=[(s.ls.getD y25.1 Ai).l,(s.ls.getD y25.1 Ai).s,(s.ls.getD y25.1 Ai).n]) (by kernel_rfl) (fun g=>by kernel_rfl) (Bq (rec.wf64 (Un h.l (s.ls.getD y25.1 Ai) (l7 (by omega))).1) (Bq (rec.wf64 (Un h.l (s.ls.getD y25.1 Ai) (l7 (by omega))).2.1) (Bq (rec.wf64 (Un h.l (s.ls.getD y25.1 Ai) (l7 (by omega))).2.2) Ov))) (by simp only [List.length_cons,List.length_nil];omega)),fun x29=>⟨(Uh (fun x=>(jm (.cons_cons _ (List.nil_sublist _)))) (bn (Q:=[]) (oq [1,0] (by decide) rfl) (qgt (y25.2.1,y25.2.2) ((some ⟨x29,0,none⟩),[(s.ls.getD y25.1 Ai).l,(s.ls.getD y25.1 Ai).s,(s.ls.getD y25.1 Ai).n].length) (tX s y25.1) ([(s.ls.getD y25.1 Ai).l,(s.ls.getD y25.1 Ai).s,(s.ls.getD y25.1 Ai).n]) 8 w ⟨(Nat.le_trans (Xl hr y25.1) (by decide)),(by simp only [List.length_cons,List.length_nil];omega)⟩ (by omega)))),fun Dh=>⟨lg (by omega) (by omega) (by omega),⟨((y25.1+1,(Dh.1,Dh.2)):Nat × (Option Addr × Nat)),(by dsimp only;omega),(by dsimp only;omega),⟨(by have e:=qsp (s:=s) (j:=y25.1) (by omega);simp only [e]<;>rfl),rfl,(gq (by have e:=qsp (s:=s) (j:=y25.1) (by omega);simp only [e]<;>rfl) (oq (fs:=[ah (bf .u8) 1 5 Dh.1 ((ak (tX1 s y25.1)).length) Dh.2 (ak (tX1 s y25.1))]) [0] (by decide) rfl))⟩,rfl⟩⟩⟩⟩⟩,
 fun h28=>have h28:¬ (y25.1:Int) < (s.ls.length:Int):=(by simpa using h28)
⟨(Uh (fun x=>(jm (.cons_cons _ (List.nil_sublist _)))) (bn (Q:=[]) (oq [0] (by decide) rfl) (qoy (y25.2.1,y25.2.2) (v.A4,v.c4) (tX s y25.1) s.ps 8 w ⟨(Nat.le_trans (Xl hr y25.1) (by decide)),(by omega)⟩ (by omega) h.k))),fun x31=>⟨(x31.1,x31.2),(by have e:=q4e (s:=s) (j:=y25.1) (by omega);simp only [e]<;>rfl),(gq (by have e:=q4e (s:=s) (j:=y25.1) (by omega);simp only [e]<;>rfl) (oq (fs:=[ah (bf .u8) 1 5 x31.1 ((ak ((tX s y25.1)++jf 8 s.ps)).length) x31.2 (ak ((tX s y25.1)++jf 8 s.ps))]) [0] (by decide) rfl))⟩⟩⟩⟩⟩⟩⟩⟩⟩⟩⟩⟩⟩⟩⟩⟩⟩)
end Go.Proofs.YtbbjlfbemibfcaaGreat.row
end
