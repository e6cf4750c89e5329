/-
  SlotM
-/
import Derived.Test.YtlipgnenbdchmaaMsr13
set_option linter.unusedVariables false
set_option linter.unusedSimpArgs false
namespace Go.Proofs.Ytlipgnenbdchmaa.slot
set_option maxRecDepth 20000
open Go.Proofs.Ytlipgnenbdchmaa Go.Proofs.Ytlipgnenbdchmaa.frame
open Go.Proofs.Ytlipgnenbdchmaa.crc (more)
structure Sl where
 g:Int
 l:Int
deriving DecidableEq
def Sl.fine (s:Sl):Prop:=inR s.g∧inR s.l
def sz:Sl:=⟨0,0⟩
def right (s:Sl):Bool:=decide (1≤s.g∧s.g≤1000000000∧0≤s.l∧s.l≤1000000000)
theorem right_iff {s:Sl} : right s=true ↔ 1≤s.g∧s.g≤1000000000∧0≤s.l∧s.l≤1000000000:=by simp [right]
def body (s:Sl):List Nat:=be 8 (u s.g)++be 8 (u s.l)
def enc (s:Sl):List Nat:=body s++le4 (more 0 (body s))
def rd (L:List Nat):Sl:=⟨sg (num (seg L 0 8)),sg (num (seg L 8 8))⟩
def dec (L:List Nat):Sl × Int :=
 if L.length=20 then (if L=enc (rd L) then (if right (rd L)=true then (rd L,0) else (sz,2)) else (sz,10)) else (sz,2)
theorem body_len (s:Sl):(body s).length=16:=by simp [body,be_len]
theorem enc_len (s:Sl):(enc s).length=20:=by simp [enc,body_len,le4]
theorem body_lt (s:Sl):∀ b ∈ body s,b < 256:=fun b hb=>by
 rcases List.mem_append.1 hb with hb | hb<;>exact be_lt _ _ _ hb
theorem enc_lt (s:Sl):∀ b ∈ enc s,b < 256:=fun b hb=>by
 rcases List.mem_append.1 hb with hb | hb
 ·exact body_lt s b hb
 ·exact le4_lt _ b hb
section
variable {L:List Nat} {s t:Sl}
theorem rd_enc (hf:s.fine):rd (enc s)=s:=by
 have hl8:∀ n,(be 8 n).length=8:=be_len 8
 have e1:seg (enc s) 0 8=be 8 (u s.g):=by
  unfold seg enc body
  rw [List.drop_zero,List.append_assoc,List.take_left' (hl8 _)]
 have e2:seg (enc s) 8 8=be 8 (u s.l):=by
  unfold seg enc body
  rw [List.append_assoc,List.drop_left' (hl8 _),List.take_left' (hl8 _)]
 have e3:(256:Nat) ^ 8=18446744073709551616:=by decide
 unfold rd
 rw [e1,e2,num_be,num_be,e3,Nat.mod_eq_of_lt (u_lt _),Nat.mod_eq_of_lt (u_lt _),sg_u hf.1,sg_u hf.2]
theorem dec_enc (hf:s.fine) (h:right s=true):dec (enc s)=(s,0):=by
 unfold dec
 rw [if_pos (enc_len s),rd_enc hf,if_pos rfl,if_pos h]
theorem dec_ok (h:(dec L).2=0):right (dec L).1=true∧enc (dec L).1=L:=by
 unfold dec at *
 split at h
 ·split at h
  ·split at h
   ·rename_i h1 h2 h3
    rw [if_pos h1,if_pos h2,if_pos h3]
    exact ⟨h3,h2.symm⟩
   ·simp at h
  ·simp at h
 ·simp at h
theorem dec_short (h:¬ L.length=20):dec L=(sz,2):=by unfold dec;rw [if_neg h]
theorem right_fine (h:right s=true):s.fine:=by
 have:=right_iff.1 h
 exact ⟨⟨by omega,by omega⟩,⟨by omega,by omega⟩⟩
end
end Go.Proofs.Ytlipgnenbdchmaa.slot
