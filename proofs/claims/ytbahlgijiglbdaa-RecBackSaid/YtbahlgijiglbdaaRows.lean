/-
  No cell of these rows narrows 'for every input' (looked for: loops, veiled, ifaces, maps, wideKeys, modest, calm, conditions, laid).
  DERIVED. THE GIVEN ROWS OF THIS SEAT. 3 by the template 'for every input the law returns true; each argument reads behind the call as it read before'; 0 by the template 'total and deterministic' (their statements: YtbahlgijiglbdaaTotals.lean).
  GIVEN WITH THE SEED: the statements are not yours to turn. If you find one false, say at which input.
  Laid BY PROGRAM, IN A SANDBOX (cutbox-rows.mjs): the forced cells as the released guide's own fill.sh prints them over the translation 125bf344e1fe6c9e… (all of the seat's roots in one cut). By AI agents, Wed Nov 11 2026. No macro, syntax, notation, axiom, sorry.
-/
import Derived.Test.YtbahlgijiglbdaaChecked
import GoSem.Claim
import GoSem.ClaimJoined
import GoSem.ClaimMapViews
import Derived.JoinedTies
import Derived.KernelRfl
namespace Go.Proofs.Ytbahlgijiglbdaa
/- THE CELL 'sum', in the pinned program and in every row, IS THE sha256 OF THE DUMP (.gsa) THAT YtbahlgijiglbdaaProg.lean LOADS. Nothing in Lean hashes anything: it is a label: what it is worth is what the hold of that sum in a sandbox is worth. -/
noncomputable def Try.pinned : Pinned := { name := "ytbahlgijiglbdaa", sum := "125bf344e1fe6c9e120a44d87734a7b930cd936c96721a085e6d84f7783d5cf1", checked := Try.checked }
namespace Rows
def none {H : Type} : Left H := { results := [], args := [] }

/-- 'snafflelaw06.RecRight': WHATEVER THE INPUT: true; the input reads as it did. -/
def recRightSpec : ChangeSpec := { name := "recRight", fn := fun _ => fun
  | [d1, d2, d3, d4, d5, d6] => { results := [.lit (.bool true)], args := [d1, d2, d3, d4, d5, d6] }
  | _ => none }
def recRightRow : OpenClaim := { program := "ytbahlgijiglbdaa", sum := "125bf344e1fe6c9e120a44d87734a7b930cd936c96721a085e6d84f7783d5cf1", func := "snaffle/snafflelaw06.RecRight", spec := "recRight", apart := false }
def RecRightSaid : Prop := recRightRow.holds Try.pinned (OpenSpec.ofChange recRightSpec)

/-- ITS FALSE NEIGHBOUR: 'it returns false'. Refute it at one input. -/
def recRightWrong : ChangeSpec := { name := "recRight", fn := fun _ => fun
  | [d1, d2, d3, d4, d5, d6] => { results := [.lit (.bool false)], args := [d1, d2, d3, d4, d5, d6] }
  | _ => none }
def RecRightWrongFalsely : Prop := recRightRow.holds Try.pinned (OpenSpec.ofChange recRightWrong)

/-- 'snafflelaw06.RecBack': WHATEVER THE INPUT: true; the input reads as it did. -/
def recBackSpec : ChangeSpec := { name := "recBack", fn := fun _ => fun
  | [d1, d2, d3, d4] => { results := [.lit (.bool true)], args := [d1, d2, d3, d4] }
  | _ => none }
def recBackRow : OpenClaim := { program := "ytbahlgijiglbdaa", sum := "125bf344e1fe6c9e120a44d87734a7b930cd936c96721a085e6d84f7783d5cf1", func := "snaffle/snafflelaw06.RecBack", spec := "recBack", apart := false }
def RecBackSaid : Prop := recBackRow.holds Try.pinned (OpenSpec.ofChange recBackSpec)

/-- ITS FALSE NEIGHBOUR: 'it returns false'. Refute it at one input. -/
def recBackWrong : ChangeSpec := { name := "recBack", fn := fun _ => fun
  | [d1, d2, d3, d4] => { results := [.lit (.bool false)], args := [d1, d2, d3, d4] }
  | _ => none }
def RecBackWrongFalsely : Prop := recBackRow.holds Try.pinned (OpenSpec.ofChange recBackWrong)

/-- 'snafflelaw06.RecFields': WHATEVER THE INPUT: true; the input reads as it did. -/
def recFieldsSpec : ChangeSpec := { name := "recFields", fn := fun _ => fun
  | [d1, d2] => { results := [.lit (.bool true)], args := [d1, d2] }
  | _ => none }
def recFieldsRow : OpenClaim := { program := "ytbahlgijiglbdaa", sum := "125bf344e1fe6c9e120a44d87734a7b930cd936c96721a085e6d84f7783d5cf1", func := "snaffle/snafflelaw06.RecFields", spec := "recFields", apart := false }
def RecFieldsSaid : Prop := recFieldsRow.holds Try.pinned (OpenSpec.ofChange recFieldsSpec)

/-- ITS FALSE NEIGHBOUR: 'it returns false'. Refute it at one input. -/
def recFieldsWrong : ChangeSpec := { name := "recFields", fn := fun _ => fun
  | [d1, d2] => { results := [.lit (.bool false)], args := [d1, d2] }
  | _ => none }
def RecFieldsWrongFalsely : Prop := recFieldsRow.holds Try.pinned (OpenSpec.ofChange recFieldsWrong)

/- THE SECOND FORM. 'bulk': how many values and letters a reading holds, each counted each time it is reached (what is shared counts as often as it is met; a slice's spare places count too). A statement '..UptoSaid' is the law's where the arguments, and the package variables that the reading takes, are together of bulk at most 1048576: NARROWER than '..Said'. Prove '..Said' where nothing that the law and all that it calls make is longer than what came in: it says more and counts as full. Else prove '..UptoSaid'. A law counts once. -/
mutual
def uptoBulk {H : Type} : DataW H → Nat
  | .lit (.string bytes) => bytes.length + 1
  | .lit _ => 1
  | .nil => 1
  | .ptr d => uptoBulk d + 1
  | .slice elems spare => uptoBulkAll elems + uptoBulkAll spare + 1
  | .agg parts => uptoBulkAll parts + 1
  | .iface _ d => uptoBulk d + 1
  | .map entries => uptoBulkEntries entries + 1
  | .held _ => 1
def uptoBulkAll {H : Type} : List (DataW H) → Nat
  | [] => 0
  | d :: r => uptoBulk d + uptoBulkAll r
def uptoBulkEntries {H : Type} : List (Lit × DataW H) → Nat
  | [] => 0
  | x :: r => uptoBulkEntry x + uptoBulkEntries r
def uptoBulkEntry {H : Type} : Lit × DataW H → Nat
  | (.string bytes, d) => bytes.length + uptoBulk d + 1
  | (_, d) => uptoBulk d + 1
 end
def uptoSmall : (H : Type) → List (DataW H) → Bool := fun _ ds => decide (uptoBulkAll ds ≤ 1048576)
def OpenSpec.upto (s : _root_.Go.ChangeSpec) : _root_.Go.OpenSpec := { _root_.Go.OpenSpec.ofChange s with cond := some uptoSmall }

/-- 'snafflelaw06.RecRight', WHERE WHAT IT READS IS OF BULK AT MOST 1048576: true; the input reads as it did. -/
def recRightUptoRow : OpenClaim := { program := "ytbahlgijiglbdaa", sum := "125bf344e1fe6c9e120a44d87734a7b930cd936c96721a085e6d84f7783d5cf1", func := "snaffle/snafflelaw06.RecRight", spec := "recRight", apart := false, narrowed := true }
def RecRightUptoSaid : Prop := recRightUptoRow.holds Try.pinned (OpenSpec.upto recRightSpec)

/-- 'snafflelaw06.RecBack', WHERE WHAT IT READS IS OF BULK AT MOST 1048576: true; the input reads as it did. -/
def recBackUptoRow : OpenClaim := { program := "ytbahlgijiglbdaa", sum := "125bf344e1fe6c9e120a44d87734a7b930cd936c96721a085e6d84f7783d5cf1", func := "snaffle/snafflelaw06.RecBack", spec := "recBack", apart := false, narrowed := true }
def RecBackUptoSaid : Prop := recBackUptoRow.holds Try.pinned (OpenSpec.upto recBackSpec)

/-- 'snafflelaw06.RecFields', WHERE WHAT IT READS IS OF BULK AT MOST 1048576: true; the input reads as it did. -/
def recFieldsUptoRow : OpenClaim := { program := "ytbahlgijiglbdaa", sum := "125bf344e1fe6c9e120a44d87734a7b930cd936c96721a085e6d84f7783d5cf1", func := "snaffle/snafflelaw06.RecFields", spec := "recFields", apart := false, narrowed := true }
def RecFieldsUptoSaid : Prop := recFieldsUptoRow.holds Try.pinned (OpenSpec.upto recFieldsSpec)

end Rows
end Go.Proofs.Ytbahlgijiglbdaa
