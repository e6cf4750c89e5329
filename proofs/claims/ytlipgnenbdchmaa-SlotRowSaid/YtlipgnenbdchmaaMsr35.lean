/-
  DiskImpl13, DiskImpl14
-/
import Derived.Test.YtlipgnenbdchmaaMsr34
set_option linter.unusedVariables false
set_option linter.unusedSimpArgs false
section
namespace Go.Proofs.Ytlipgnenbdchmaa.disk
set_option maxRecDepth 20000
open Go.RowKit
theorem with_here {fs:List FileD} (h:Row fs) {f:FileD} (hl:look f.name fs=none):withF f fs=fs.take (placeN f.name fs)++f :: fs.drop (placeN f.name fs):=by
 have hsp:=place_spec (nm:=f.name) h
 have hle:=place_le f.name fs
 rw [with_eq f h]
 have e1:ahead f.name fs=fs.take (placeN f.name fs):=by
  have h1:(fs.take (placeN f.name fs)).filter (fun g=>decide (nlt g.name f.name))=fs.take (placeN f.name fs):=by
   rw [List.filter_eq_self]
   intro g hg
   obtain ⟨t,ht,rfl⟩:=List.getElem_of_mem hg
   rw [List.length_take] at ht
   rw [List.getElem_take]
   exact decide_eq_true ((hsp t _ (List.getElem?_eq_getElem (by omega))).1 (by omega))
  have h2:(fs.drop (placeN f.name fs)).filter (fun g=>decide (nlt g.name f.name))=[]:=by
   rw [List.filter_eq_nil_iff]
   intro g hg
   obtain ⟨t,ht,rfl⟩:=List.getElem_of_mem hg
   rw [List.length_drop] at ht
   rw [List.getElem_drop]
   simpa using (hsp (placeN f.name fs+t) _ (List.getElem?_eq_getElem (by omega))).2 (by omega)
  show fs.filter _=_
  conv=>lhs;rw [← List.take_append_drop (placeN f.name fs) fs]
  rw [List.filter_append,h1,h2,List.append_nil]
 have e2:behind f.name fs=fs.drop (placeN f.name fs):=by
  have h1:(fs.take (placeN f.name fs)).filter (fun g=>decide (nlt f.name g.name))=[]:=by
   rw [List.filter_eq_nil_iff]
   intro g hg
   obtain ⟨t,ht,rfl⟩:=List.getElem_of_mem hg
   rw [List.length_take] at ht
   rw [List.getElem_take]
   simpa using nlt_asymm ((hsp t _ (List.getElem?_eq_getElem (by omega))).1 (by omega))
  have h2:(fs.drop (placeN f.name fs)).filter (fun g=>decide (nlt f.name g.name))=fs.drop (placeN f.name fs):=by
   rw [List.filter_eq_self]
   intro g hg
   have hm:g ∈ fs:=List.mem_of_mem_drop hg
   obtain ⟨t,ht,rfl⟩:=List.getElem_of_mem hg
   rw [List.length_drop] at ht
   have h3:=(hsp (placeN f.name fs+t) _ (List.getElem?_eq_getElem (by omega))).2 (by omega)
   have h4:=look_none hl _ hm
   rw [List.getElem_drop] at h4 ⊢
   rcases nlt_tri fs[placeN f.name fs+t].name f.name with h5 | h5 | h5
   ·exact absurd h5 h3
   ·exact absurd h5 h4
   ·exact decide_eq_true h5
  show fs.filter _=_
  conv=>lhs;rw [← List.take_append_drop (placeN f.name fs) fs]
  rw [List.filter_append,h1,h2,List.nil_append]
 rw [e1,e2,List.append_assoc]
 rfl
end Go.Proofs.Ytlipgnenbdchmaa.disk
end
section
namespace Go.Proofs.Ytlipgnenbdchmaa.disk
set_option maxRecDepth 20000
open Go.RowKit
theorem allowed_fr (n:Nat) (room fuse:Int) (down:Bool) (nm:ByteArray) (fs:List FileD) (x:Int) (w:World) (hn:fs.length=n) (hr:inI room) (hfu:inI fuse) (hsh:shortB fs=true) (hnm:nm.size≤100) (hx:firstE ⟨fs,room,fuse,down⟩ nm nm=x) :
  ∀ (A1:Option Addr) (c1:Nat) (S1:Nat→Prop) (w1 W:World) (d0 d1 d2 d3 r0 r1 r2 r3:Value),DFr 24 w w1 W d0 d1 d2 d3 r0 r1 r2 r3→OwnF w1 (w.heap.size+2) 51 S1 A1 n c1 fs→(∀ b,S1 b→w.heap.size+2≤b∧b < w1.heap.size) →
   Calls Try.prog 50 #[.agg #[.slice A1 n c1,.int .i64 room,.int .i64 fuse,.bool down],.string nm] W fun e w'=>e = .returned (.int .i64 x)∧Below W.heap.size W w' :=
 fun A1 c1 S1 w1 W d0 d1 d2 d3 r0 r1 r2 r3 h ho hs=>dallowed A1 n c1 room fuse down nm fs x (Lt W.heap.size) W (fun _ h=>h) (fr_reads h ho hs) hn ho.cap.1 ho.cap.2 hr hfu (by have:=(used_short hsh).1;omega) (by unfold maxLen;omega) hx
end Go.Proofs.Ytlipgnenbdchmaa.disk
end
