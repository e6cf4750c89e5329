/-
  VenG
-/
import Derived.Test.YtcpahggkioagkaaMvf36
set_option linter.unusedVariables false
set_option linter.unusedSimpArgs false
namespace Go.Proofs.Ytcpahggkioagkaa.venue
open Go.RowKit Go.Proofs.Ytcpahggkioagkaa
open Go.Proofs.Ytcpahggkioagkaa.order (Or oz open_)
open Go.Proofs.Ytcpahggkioagkaa.rec (Rc)
open Go.Proofs.Ytcpahggkioagkaa.book (v_oright v_ofnote v_take v_begin v_open v_change l_rec nt_fine)
set_option maxRecDepth 20000
section
variable {w0:World} {D:List Fact} {S:Nat→Prop} {W:World} {v:Vv} {s:Vn} {m:Mg} {acc:Bool} {id q:Int}
theorem g_vright (h:∀ w,Below w0.heap.size w0 w→All D w→InV w (Lt w.heap.size) v s):Gives Try.prog w0 D 8 #[.agg (vc v s)] (.bool (right s)):=fun w hw ha=>v_vright v s w (h w hw ha)
theorem g_vfind {x:Int} (e:findV s.os id=x) (h:∀ w,Below w0.heap.size w0 w→All D w→InV w (Lt w.heap.size) v s):Gives Try.prog w0 D 12 #[.agg (vc v s),.int .i64 id] (.int .i64 x):=fun w hw ha=>by
 subst e;exact v_find v s id w (h w hw ha)
theorem g_send {r:Vn × Int} (e:sendV s m=r) (hF:Fixed w0 D S W) (hin:∀ w,Below w0.heap.size w0 w→All D w→InV w S v s) (hmf:m.fine) :
  GivesM Try.prog w0 D 14 #[.agg (vc v s),.agg (mc m)] (Dat (fun w S v=>InV w S v r.1) S W) (fun x=>.tuple #[.agg (vc x.1.2.2 r.1),.int .i64 r.2]) (fun x=>[poolF x.1.1 x.1.2.1]):=by
 subst e
 exact gives_dat (R:=fun w S v=>InV w S v (sendV s m).1) (r:=fun b=>.tuple #[.agg (vc b (sendV s m).1),.int .i64 (sendV s m).2]) hF (fun w hw ha=>v_send v s m S w (hin w hw ha) (hF w hw ha).2 hmf)
theorem g_take {r:Vn × Int} (e:takeV s acc=r) (hF:Fixed w0 D S W) (hin:∀ w,Below w0.heap.size w0 w→All D w→InV w S v s) :
  GivesM Try.prog w0 D 17 #[.agg (vc v s),.bool acc] (Dat (fun w S v=>InV w S v r.1) S W) (fun x=>.tuple #[.agg (vc x.1.2.2 r.1),.int .i64 r.2]) (fun x=>[poolF x.1.1 x.1.2.1]):=by
 subst e
 exact gives_dat (R:=fun w S v=>InV w S v (takeV s acc).1) (r:=fun b=>.tuple #[.agg (vc b (takeV s acc).1),.int .i64 (takeV s acc).2]) hF (fun w hw ha=>v_vtake v s acc S w (hin w hw ha) (hF w hw ha).2)
theorem g_fill {r:Vn × Int} (e:fillV s id q=r) (hF:Fixed w0 D S W) (hin:∀ w,Below w0.heap.size w0 w→All D w→InV w S v s) (hqf:frame.inR q) :
  GivesM Try.prog w0 D 19 #[.agg (vc v s),.int .i64 id,.int .i64 q] (Dat (fun w S v=>InV w S v r.1) S W) (fun x=>.tuple #[.agg (vc x.1.2.2 r.1),.int .i64 r.2]) (fun x=>[poolF x.1.1 x.1.2.1]):=by
 subst e
 exact gives_dat (R:=fun w S v=>InV w S v (fillV s id q).1) (r:=fun b=>.tuple #[.agg (vc b (fillV s id q).1),.int .i64 (fillV s id q).2]) hF (fun w hw ha=>v_fill v s id q S w (hin w hw ha) (hF w hw ha).2 hqf)
theorem g_out {r:Vn × Int} (e:outV s id=r) (hF:Fixed w0 D S W) (hin:∀ w,Below w0.heap.size w0 w→All D w→InV w S v s) :
  GivesM Try.prog w0 D 21 #[.agg (vc v s),.int .i64 id] (Dat (fun w S v=>InV w S v r.1) S W) (fun x=>.tuple #[.agg (vc x.1.2.2 r.1),.int .i64 r.2]) (fun x=>[poolF x.1.1 x.1.2.1]):=by
 subst e
 exact gives_dat (R:=fun w S v=>InV w S v (outV s id).1) (r:=fun b=>.tuple #[.agg (vc b (outV s id).1),.int .i64 (outV s id).2]) hF (fun w hw ha=>v_out v s id S w (hin w hw ha) (hF w hw ha).2)
end
theorem note_eql {w0:World} {D:List Fact} {a b:order.Nt} (ha:a.fine) (hb:b.fine) (ox oy:Operand):Yields0 Try.prog w0 D (do eqGuard .eql 51 ox oy (.agg (order.nc a)) (.agg (order.nc b));Go.binOp .eql 51 (.agg (order.nc a)) (.agg (order.nc b))) (.bool (decide (a=b))):=eql_agg (by kernel_rfl) (run_eq5 a b ha hb) ox oy
theorem nil_v {w:World} {S:Nat→Prop} : InV w S ⟨none,0,none,0,none,0⟩ ⟨[],[],[]⟩:=⟨fun h=>absurd h (by simp),fun h=>absurd h (by simp),fun h=>absurd h (by simp),⟨Nat.le_refl _,Nat.zero_le _⟩,⟨Nat.le_refl _,Nat.zero_le _⟩,⟨Nat.le_refl _,Nat.zero_le _⟩⟩
end Go.Proofs.Ytcpahggkioagkaa.venue
