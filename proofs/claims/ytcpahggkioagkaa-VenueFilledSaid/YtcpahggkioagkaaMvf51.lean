/-
  ApiDeed
-/
import Derived.Test.YtcpahggkioagkaaRows
import Derived.Test.YtcpahggkioagkaaMvf49
set_option linter.unusedVariables false
set_option linter.unusedSimpArgs false
namespace Go.Proofs.Ytcpahggkioagkaa
set_option maxRecDepth 20000
open Go.RowKit
abbrev DeedD:Type:=venue.Dd
def rdDeed:Rd DeedD:=fun _ _ cs d=>cs=(venue.ddc d).toList∧d.ok
theorem deed_byte {x:Int} (h:(Lit.int .u8 x).wf=true):∃ n:Nat,x=(n:Int)∧n < 256:=by
 simp [Lit.wf,IntKind.min,IntKind.max,IntKind.signed,IntKind.bits] at h
 exact ⟨x.toNat,by omega,by omega⟩
theorem of_deed:OfTrod Try.prog 49 rdDeed:=fun H enc w fuel cs x h=>by
 have hl:=struct_len Try.underlying49 h
 rw [show Try.prog.cellsOf 49=5 by kernel_rfl] at hl
 obtain ⟨k,e0,h0⟩:=of_field Try.underlying49 h 0 _ rfl 1 (by kernel_rfl) (of_int Try.underlying5)
 obtain ⟨o,e1,h1⟩:=of_field Try.underlying49 h 1 _ rfl 1 (by kernel_rfl) (of_int Try.underlying5)
 obtain ⟨q,e2,h2⟩:=of_field Try.underlying49 h 2 _ rfl 1 (by kernel_rfl) (of_int Try.underlying5)
 obtain ⟨p,e3,h3⟩:=of_field Try.underlying49 h 3 _ rfl 1 (by kernel_rfl) (of_int Try.underlying5)
 obtain ⟨a,e4⟩:=of_field Try.underlying49 h 4 _ rfl 1 (by kernel_rfl) (of_bool Try.underlying4)
 match cs,hl with
 | [c0,c1,c2,c3,c4],_ =>
  simp [rdBool] at e0 e1 e2 e3 e4
  subst e0 e1 e2 e3 e4
  obtain ⟨k,rfl,g0⟩:=deed_byte h0
  obtain ⟨o,rfl,g1⟩:=deed_byte h1
  obtain ⟨q,rfl,g2⟩:=deed_byte h2
  obtain ⟨p,rfl,g3⟩:=deed_byte h3
  exact ⟨⟨k,o,q,p,a⟩,rfl,g0,g1,g2,g3⟩
namespace venue
def dz:Dd:=⟨0,0,0,0,false⟩
theorem info_deed:(Try.prog.info? 49).map (fun i=>(i.zero,i.size,i.bytes))=some (some (.agg (ddc dz)),5,5):=by kernel_rfl
theorem deed_cells (w:World) (S:Nat→Prop) (cs:List Value) (x:Dd) (h:rdDeed w S cs x):cs=(ddc x).toList:=h.1
theorem deed_ok {w:World} {S:Nat→Prop} {A:Option Addr} {l:List Dd} (h:Elems rdDeed 5 w S A l):∀ f ∈ l,f.ok:=by
 intro f hf
 obtain ⟨j,hj,rfl⟩:=List.getElem_of_mem hf
 obtain ⟨b,off,e,hb,hc⟩:=h (by omega)
 obtain ⟨cs,hl,hcs,_,hf⟩:=hc j l[j] (List.getElem?_eq_getElem hj)
 exact hf
abbrev DV (w:World):Type:=Dat (fun w S (b:Vv × Vn)=>InV w S b.1 b.2) (fun _=>False) w
theorem keeps_vv:Keeps3 (fun w S (b:Vv × Vn)=>InV w S b.1 b.2):=fun w w' S S' b h ha hS=>h.keep ha.alike hS
abbrev dv0 (w:World):DV w:=given_ (R:=fun w S (b:Vv × Vn)=>InV w S b.1 b.2) (b:=(⟨none,0,none,0,none,0⟩,⟨[],[],[]⟩)) (nil_v (w:=w)) keeps_vv
abbrev dvN {w:World} (x:DV w) {t:Vn} (z:Dat (fun w S v=>InV w S v t) (Un (fun _=>False) x.1.2.1) x.1.1):DV w :=
 turn (R2:=fun w S (b:Vv × Vn)=>InV w S b.1 b.2) (glue keeps_vv x (keeps_v t) z) (fun b=>(b.2,t)) (fun _ _ _ h=>h.2)
theorem turns_dv {w:World} (x:DV w) {t:Vn} (z:Dat (fun w S v=>InV w S v t) (Un (fun _=>False) x.1.2.1) x.1.1):Turns w [poolF z.1.1 z.1.2.1,poolF x.1.1 x.1.2.1] [poolF (dvN x z).1.1 (dvN x z).1.2.1]:=turns_glue keeps_vv x (keeps_v t) z
theorem dv_in {w:World} {D:List Fact} (x:DV w) {i:Nat} (hi:D[i]?=some (poolF x.1.1 x.1.2.1)):∀ w1,Below w.heap.size w w1→All D w1→InV w1 (Un (fun _=>False) x.1.2.1) x.1.2.2.1 x.1.2.2.2:=dat_in keeps_vv (fixed_low (fun k hk=>hk.elim)) x hi
theorem dv_all {w:World} {D:List Fact} (x:DV w) {i:Nat} (hi:D[i]?=some (poolF x.1.1 x.1.2.1)):∀ w1,Below w.heap.size w w1→All D w1→InV w1 (Lt w1.heap.size) x.1.2.2.1 x.1.2.2.2:=dat_all keeps_vv (fixed_low (fun k hk=>hk.elim)) x hi
theorem dv_fixed {w:World} {D:List Fact} (x:DV w) {i:Nat} (hi:D[i]?=some (poolF x.1.1 x.1.2.1)):Fixed w D (Un (fun _=>False) x.1.2.1) x.1.1:=fixed_next (fixed_low (fun k hk=>hk.elim)) x hi
theorem g_deed {w0:World} {D:List Fact} {S:Nat→Prop} {W:World} {v:Vv} {s:Vn} {d:Dd} (hF:Fixed w0 D S W) (hin:∀ w,Below w0.heap.size w0 w→All D w→InV w S v s) (hd:d.ok) :
  GivesM Try.prog w0 D 23 #[.agg (vc v s),.agg (ddc d)] (Dat (fun w S v=>InV w S v (deedV s d)) S W) (fun x=>.agg (vc x.1.2.2 (deedV s d))) (fun x=>[poolF x.1.1 x.1.2.1]) :=
 gives_dat (R:=fun w S v=>InV w S v (deedV s d)) (r:=fun b=>.agg (vc b (deedV s d))) hF (fun w hw ha=>v_deed v s d S w (hin w hw ha) (hF w hw ha).2 hd)
end venue
end Go.Proofs.Ytcpahggkioagkaa
