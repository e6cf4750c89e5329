/-
  DiskAwakeM, Off
-/
import Derived.Test.YtlipgnenbdchmaaMsr18
import Derived.WalkKit
import Derived.Test.YtlipgnenbdchmaaMsr09
set_option linter.unusedVariables false
set_option linter.unusedSimpArgs false
section
namespace Go.Proofs.Ytlipgnenbdchmaa.disk
set_option maxRecDepth 20000
open Go.RowKit
end Go.Proofs.Ytlipgnenbdchmaa.disk
end
section
namespace Go.Proofs.Ytlipgnenbdchmaa
set_option maxRecDepth 20000
open Go.RowKit
def Off (own:List Nat) (w:World):Nat→Prop:=fun b=>b < w.heap.size∧b ∉ own
theorem Off.lt {own:List Nat} {w:World} : ∀ b,Off own w b→b < w.heap.size:=fun _ h=>h.1
theorem Off.ret {own:List Nat} {w w' : World} (ho:∀ g ∈ own,g < w.heap.size) (hs:w.heap.size≤w'.heap.size):∀ b,Out (Off own w) w w' b→Off own w' b:=fun b h=>by
 rcases h with h | h
 ·exact ⟨Nat.lt_of_lt_of_le h.1 hs,h.2⟩
 ·exact ⟨h.2,fun hm=>by have:=ho b hm;omega⟩
theorem Off.grow {own:List Nat} {w w' : World} (hs:w.heap.size≤w'.heap.size):∀ b,Off own w b→Off own w' b:=fun b h=>⟨Nat.lt_of_lt_of_le h.1 hs,h.2⟩
theorem Off.cons {own:List Nat} {w w' : World} (hs:w.heap.size≤w'.heap.size) {g:Nat} (hg:w.heap.size≤g):∀ b,Off own w b→Off (g :: own) w' b:=fun b h =>
 ⟨Nat.lt_of_lt_of_le h.1 hs,fun hm=>by
  rcases List.mem_cons.1 hm with e | hm
  ·have:=h.1;omega
  ·exact h.2 hm⟩
section
variable {own:List Nat} {w w' : World} {A:Option Addr} {fs:List FileD} {bs:List Nat}
theorem FilesIn.off (h:FilesIn w (Lt w.heap.size) A fs):FilesIn w (Off [] w) A fs:=h.more (fun b h=>⟨h,by simp⟩)
theorem FilesIn.ret (h:FilesIn w' (Out (Off own w) w w') A fs) (ho:∀ g ∈ own,g < w.heap.size) (hs:w.heap.size≤w'.heap.size):FilesIn w' (Off own w') A fs:=h.more (Off.ret ho hs)
theorem FilesIn.grow (h:FilesIn w (Off own w) A fs) (hb:Below w.heap.size w w'):FilesIn w' (Off own w') A fs:=(h.below Off.lt hb).more (Off.grow hb.size)
theorem FilesIn.alloc (h:FilesIn w (Off own w) A fs) (o:Obj):FilesIn (w.alloc o) (Off own (w.alloc o)) A fs:=h.grow ((Below.refl _ _).alloc (Nat.le_refl _) o)
theorem FilesIn.drew (h:FilesIn w (Off own w) A fs):FilesIn w.drew (Off own w.drew) A fs:=h
theorem BysIn.off (h:BysIn w (Lt w.heap.size) A bs):BysIn w (Off [] w) A bs:=IntsIn.keep h (alike_refl _ _) (fun b h=>⟨h,by simp⟩)
theorem BysIn.ret (h:BysIn w' (Out (Off own w) w w') A bs) (ho:∀ g ∈ own,g < w.heap.size) (hs:w.heap.size≤w'.heap.size):BysIn w' (Off own w') A bs:=IntsIn.keep h (alike_refl _ _) (Off.ret ho hs)
theorem BysIn.grow (h:BysIn w (Off own w) A bs) (hb:Below w.heap.size w w'):BysIn w' (Off own w') A bs:=IntsIn.keep h (below_alikeS hb Off.lt) (Off.grow hb.size)
end
end Go.Proofs.Ytlipgnenbdchmaa
end
