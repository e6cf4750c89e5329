/-
  Api16
-/
import Derived.Test.YtcpahggkioagkaaRows
import Derived.Test.YtcpahggkioagkaaMvr31
set_option linter.unusedVariables false
set_option linter.unusedSimpArgs false
namespace Go.Proofs.Ytcpahggkioagkaa
set_option maxRecDepth 20000
open Go.RowKit
abbrev MsgD:Type:=venue.Mg
abbrev rdMsg:Rd MsgD:=venue.rdMsg
theorem of_msg:OfTrod Try.prog 28 rdMsg:=venue.of_msg
abbrev VenueD:Type:=venue.Vn
def rdVenue:Rd VenueD:=fun w S cs s => ∃ v:venue.Vv,cs=(venue.vc v s).toList∧venue.InV w S v s
theorem of_venue:OfTrod Try.prog 26 rdVenue:=fun H enc w fuel cs x h=>by
 have hl:=struct_len Try.underlying26 h
 rw [show Try.prog.cellsOf 26=3 by kernel_rfl] at hl
 obtain ⟨l,A1,n1,c1,e0,h0⟩:=of_field Try.underlying26 h 0 _ rfl 1 (by kernel_rfl) (of_slice venue.of_msg Try.underlying22 (size:=9) (by kernel_rfl) (by decide))
 obtain ⟨os,A2,n2,c2,e1,h1⟩:=of_field Try.underlying26 h 1 _ rfl 1 (by kernel_rfl) (of_slice of_order Try.underlying23 (size:=12) (by kernel_rfl) (by decide))
 obtain ⟨ns,A3,n3,c3,e2,h2⟩:=of_field Try.underlying26 h 2 _ rfl 1 (by kernel_rfl) (of_slice venue.of_nt Try.underlying24 (size:=5) (by kernel_rfl) (by decide))
 match cs,hl with
 | [a0,a1,a2],_ =>
  simp at e0 e1 e2
  subst e0 e1 e2
  obtain ⟨g0,rfl,k0⟩:=h0
  obtain ⟨g1,rfl,k1⟩:=h1
  obtain ⟨g2,rfl,k2⟩:=h2
  exact ⟨⟨l,os,ns⟩,⟨A1,c1,A2,c2,A3,c3⟩,rfl,⟨g0,g1,g2,k0,k1,k2⟩⟩
end Go.Proofs.Ytcpahggkioagkaa
