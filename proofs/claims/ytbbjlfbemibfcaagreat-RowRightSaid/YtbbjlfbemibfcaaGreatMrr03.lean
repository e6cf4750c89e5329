/-
  Bytes, Str
-/
import Derived.Test.YtbbjlfbemibfcaaGreatMrr02
import Derived.Laws.BitsAllLaws
import Derived.Laws.BytesArg
set_option linter.unusedVariables false
set_option linter.unusedSimpArgs false
section
namespace Go.Proofs.YtbbjlfbemibfcaaGreat
set_option maxRecDepth 20000
open Go.RowKit
def ak (bs:List Nat):List Int:=bs.map fun b:Nat=>(b:Int)
theorem iy (bs:List Nat):(ak bs).length=bs.length:=by simp [ak]
theorem q1e (a:List Nat) (k:Nat):ak (a.take k)=(ak a).take k:=by simp [ak,List.map_take]
theorem Hq (a:List Nat) (k:Nat):ak (a.drop k)=(ak a).drop k:=by simp [ak,List.map_drop]
def Az (w:World) (B:Nat) (A:Option Addr) (bs:List Nat):Prop:=Ints .u8 w B A (ak bs)
theorem wf_u8 (b:Nat):(Lit.int .u8 (b:Int)).wf=true ↔ b < 256:=by
 simp [Lit.wf,IntKind.min,IntKind.max,IntKind.signed,IntKind.bits];omega
theorem Az.nil (w:World) (B:Nat) (A:Option Addr):Az w B A []:=Ints.nil _ _ _ _
theorem Az.below {w w' : World} {B:Nat} {A:Option Addr} {bs:List Nat} (h:Az w B A bs) (hb:Below B w w'):Az w' B A bs:=Ints.below h hb
theorem Az.more {w:World} {B B' : Nat} {A:Option Addr} {bs:List Nat} (h:Az w B A bs) (hb:B≤B'):Az w B' A bs:=Ints.more h hb
theorem Az.take {w:World} {B:Nat} {A:Option Addr} {bs:List Nat} (h:Az w B A bs) (m:Nat):Az w B A (bs.take m):=by
 unfold Az;rw [q1e];exact Ints.take h m
theorem Az.cut {w:World} {B:Nat} {A:Option Addr} {bs:List Nat} (h:Az w B A bs) (m cap:Nat) (hc:bs.length≤cap):Az w B (cutAt A cap m 1) (bs.drop m):=by
 unfold Az;rw [Hq];exact Ints.cut h m cap (by rw [iy];exact hc)
theorem Az.lt {w:World} {B:Nat} {A:Option Addr} {bs:List Nat} (h:Az w B A bs):∀ b ∈ bs,b < 256:=by
 intro b hb
 exact (wf_u8 b).1 (h.1 _ (List.mem_map.2 ⟨b,hb,rfl⟩))
theorem Az.at_ {w:World} {B:Nat} {A:Option Addr} {bs:List Nat} (h:Az w B A bs) {j:Nat} (hj:j < bs.length) :
  ∃ b off,∃ c:Nat,A=some ⟨b,off,none⟩∧b < B∧Hid (bs[j]?=some c)∧w.cell? ⟨b,off+j,none⟩=some (.int .u8 (c:Int))∧c < 256:=by
 obtain ⟨b,off,x,e,hb,HX,hc,hw⟩:=Ints.at_ h (j:=j) (by rw [iy];exact hj)
 have hx:=HX.out
 simp only [ak,List.getElem?_map] at hx
 obtain ⟨c,hcc,rfl⟩:=Option.map_eq_some_iff.1 hx
 exact ⟨b,off,c,e,hb,Lib.hid hcc,hc,(wf_u8 c).1 hw⟩
theorem Az.new {w:World} {t:TypeId} {cs:Array Value} (bs:List Nat) (he:cs.toList=(ak bs).map (Value.int .u8)) (hw:∀ b ∈ bs,b < 256) :
  Az (w.alloc (.cells cs t)) (w.heap.size+1) (some ⟨w.heap.size,0,none⟩) bs :=
 Ints.new _ he (by intro x hx;obtain ⟨b,hb,rfl⟩:=List.mem_map.1 hx;exact (wf_u8 b).2 (hw b hb))
theorem Ints.Ws {w:World} {B:Nat} {A:Option Addr} {xs:List Int} (h:Ints .u8 w B A xs):∃ bs:List Nat,xs=ak bs∧Az w B A bs:=by
 have e:xs=ak (xs.map Int.toNat):=by
  simp only [ak,List.map_map]
  conv=>lhs;rw [← List.map_id xs]
  refine List.map_congr_left fun x hx=>?_
  have:=h.1 x hx
  have h0:0≤x:=by
   have:IntKind.u8.min≤x∧x≤IntKind.u8.max:=by simpa [Lit.wf] using this
   have:=this.1
   simpa [IntKind.min,IntKind.signed] using this
  simp;omega
 exact ⟨_,e,by unfold Az;rw [← e];exact h⟩
def J9 (w:World) (base:Nat) (e:TypeId) (A:Option Addr) (n c:Nat) (bs:List Nat):Prop:=Fg w base e .u8 A n c (ak bs)
section
variable {w w' : World} {base n c:Nat} {e:TypeId} {A:Option Addr} {bs:List Nat}
theorem J9.nil:J9 w base e none 0 0 []:=Fg.nil
theorem J9.len (h:J9 w base e A n c bs):bs.length=n:=by rw [← iy];exact Fg.len h
theorem J9.Ws (h:J9 w base e A n c bs):Az w w.heap.size A bs:=Fg.ints h
theorem J9.alloc (h:J9 w base e A n c bs) (o:Obj):J9 (w.alloc o) base e A n c bs:=Fg.alloc h o
theorem J9.block (h:J9 w base e A n c bs):∀ g,(Value.slice A n c).ownBlock=some g→base≤g∧g < w.heap.size:=Fg.block h
theorem J9.new {t:TypeId} {cs:Array Value} (hb:base≤w.heap.size) (bs:List Nat) (he:cs.toList=(ak bs).map (Value.int .u8)) (hw:∀ b ∈ bs,b < 256) (hn:bs.length=n) (hm:n≤maxLen) :
  J9 (w.alloc (.cells cs t)) base t (some ⟨w.heap.size,0,none⟩) n n bs :=
 Fg.new hb _ he (by intro x hx;obtain ⟨b,hb,rfl⟩:=List.mem_map.1 hx;exact (wf_u8 b).2 (hw b hb)) (by rw [iy];exact hn) hm
end
theorem J9.at_ {w:World} {base n c:Nat} {e:TypeId} {A:Option Addr} {bs:List Nat} (h:J9 w base e A n c bs) {j:Nat} (hj:j < n) :
  ∃ g,∃ x:Nat,A=some ⟨g,0,none⟩∧base≤g∧g < w.heap.size∧Hid (bs[j]?=some x)∧w.cell? ⟨g,j,none⟩=some (.int .u8 (x:Int))∧x < 256∧w.frozen? ⟨g,j,none⟩=false:=by
 obtain ⟨g,x,e,hb,hlt,HX,hc,hw,hf⟩:=Fg.at_ h hj
 have hx:=HX.out
 simp only [ak,List.getElem?_map] at hx
 obtain ⟨y,hy,rfl⟩:=Option.map_eq_some_iff.1 hx
 exact ⟨g,y,e,hb,hlt,Lib.hid hy,hc,(wf_u8 y).1 hw,hf⟩
theorem J9.drew {w:World} {base n c:Nat} {e:TypeId} {A:Option Addr} {bs:List Nat} (h:J9 w base e A n c bs):J9 w.drew base e A n c bs:=h
def wo (bs:List Nat):ByteArray:=strOfNums (ak bs)
theorem qkf {P:Program} {w:World} {B:Nat} {A:Option Addr} {bs:List Nat} {n cap:Nat} (h:Az w B A bs) (hn:bs.length=n) (src e dst:TypeId) (hs:P.underlying src=some (.slice e)) (he:P.underlying e=some (.int .u8))
  (hd:P.underlying dst=some .string):(convert src dst (.slice A n cap)).run P w = .ok (.string (wo bs)) w:=by
 by_cases h0:n=0
 ·subst h0
  have hb:bs=[]:=List.eq_nil_of_length_eq_zero hn
  subst hb
  rcases A with _ | a
  ·rw [run_convert_bytes_nil w src e hs he 0 cap dst hd];rfl
  ·rw [run_convert_bytes_string w src dst e _ 0 cap hs he hd,run_bytesToString w a 0 cap [] (by simpa using run_loadCells_list (P:=P) w a [] (by simp))]
   rfl
 ·obtain ⟨b,off,rfl,hlt,hc⟩:=h.2 (by rw [iy];omega)
  exact run_convert_bytes_arg w src e hs he b off n cap (ak bs) (by rw [iy];exact hn) (fun i hi=>hc i (by rw [iy];omega)) dst hd
theorem X9 (a b:Nat) (ha:a < 4294967296) (hb:b < 4294967296):∃ m:Nat,bits .xor .u32 (a:Int) (b:Int)=(m:Int)∧Hid (m=a ^^^ b)∧m < 4294967296 :=
 ⟨a ^^^ b,u32_xor_nat a b ha hb,Lib.hid rfl,Nat.xor_lt_two_pow (n:=32) ha hb⟩
end Go.Proofs.YtbbjlfbemibfcaaGreat
end
section
namespace Go.Proofs.YtbbjlfbemibfcaaGreat
set_option maxRecDepth 20000
open Go.RowKit
theorem qqe (bs:List Nat):(wo bs).toList=bs.map UInt8.ofNat:=by
 rw [ByteArray.toList_eq]
 unfold wo
 rw [strOfNums_data,ak,List.map_map]
 exact List.map_congr_left fun x _=>by simp
theorem q4y {a b:List Nat} (ha:∀ x ∈ a,x < 256) (hb:∀ x ∈ b,x < 256):(wo a).toList=(wo b).toList ↔ a=b:=by
 rw [qqe,qqe]
 constructor
 ·intro h
  have h2:=congrArg (List.map UInt8.toNat) h
  rw [List.map_map,List.map_map] at h2
  have k:∀ l:List Nat,(∀ x ∈ l,x < 256)→l.map (UInt8.toNat ∘ UInt8.ofNat)=l:=fun l hl=>by
   conv=>rhs;rw [← List.map_id l]
   refine List.map_congr_left fun x hx=>?_
   have:=hl x hx
   simp;omega
  rwa [k a ha,k b hb] at h2
 ·rintro rfl;rfl
end Go.Proofs.YtbbjlfbemibfcaaGreat
end
