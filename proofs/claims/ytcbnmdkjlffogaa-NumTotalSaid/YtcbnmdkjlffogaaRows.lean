/-
  No cell of these rows narrows 'for every input' (looked for: loops, veiled, ifaces, maps, wideKeys, modest, calm, conditions, laid).
  DERIVED. THE GIVEN ROWS OF THIS SEAT. 4 by the template 'for every input the law returns true; each argument reads behind the call as it read before'; 0 by the template 'total and deterministic' (their statements: YtcbnmdkjlffogaaTotals.lean).
  GIVEN WITH THE SEED: the statements are not yours to turn. If you find one false, say at which input.
  Laid BY PROGRAM, IN A SANDBOX (cutbox-rows.mjs): the forced cells as the released guide's own fill.sh prints them over the translation ba8b65884ac1a522… (all of the seat's roots in one cut). By AI agents, Wed Nov 11 2026. No macro, syntax, notation, axiom, sorry.
-/
import Derived.Test.YtcbnmdkjlffogaaChecked
import GoSem.Claim
import GoSem.ClaimJoined
import GoSem.ClaimMapViews
import Derived.JoinedTies
import Derived.KernelRfl
namespace Go.Proofs.Ytcbnmdkjlffogaa
/- THE CELL 'sum', in the pinned program and in every row, IS THE sha256 OF THE DUMP (.gsa) THAT YtcbnmdkjlffogaaProg.lean LOADS. Nothing in Lean hashes anything: it is a label: what it is worth is what the hold of that sum in a sandbox is worth. -/
noncomputable def Try.pinned : Pinned := { name := "ytcbnmdkjlffogaa", sum := "ba8b65884ac1a52246947cd484641d3298d8e22aabf8ad6735d631aa849ab61b", checked := Try.checked }
namespace Rows
def none {H : Type} : Left H := { results := [], args := [] }

/-- 'snafflelaw01.NumRight': WHATEVER THE INPUT: true; the input reads as it did. -/
def numRightSpec : ChangeSpec := { name := "numRight", fn := fun _ => fun
  | [d1, d2, d3] => { results := [.lit (.bool true)], args := [d1, d2, d3] }
  | _ => none }
def numRightRow : OpenClaim := { program := "ytcbnmdkjlffogaa", sum := "ba8b65884ac1a52246947cd484641d3298d8e22aabf8ad6735d631aa849ab61b", func := "snaffle/snafflelaw01.NumRight", spec := "numRight", apart := false }
def NumRightSaid : Prop := numRightRow.holds Try.pinned (OpenSpec.ofChange numRightSpec)

/-- ITS FALSE NEIGHBOUR: 'it returns false'. Refute it at one input. -/
def numRightWrong : ChangeSpec := { name := "numRight", fn := fun _ => fun
  | [d1, d2, d3] => { results := [.lit (.bool false)], args := [d1, d2, d3] }
  | _ => none }
def NumRightWrongFalsely : Prop := numRightRow.holds Try.pinned (OpenSpec.ofChange numRightWrong)

/-- 'snafflelaw01.NumBack': WHATEVER THE INPUT: true; the input reads as it did. -/
def numBackSpec : ChangeSpec := { name := "numBack", fn := fun _ => fun
  | [d1, d2] => { results := [.lit (.bool true)], args := [d1, d2] }
  | _ => none }
def numBackRow : OpenClaim := { program := "ytcbnmdkjlffogaa", sum := "ba8b65884ac1a52246947cd484641d3298d8e22aabf8ad6735d631aa849ab61b", func := "snaffle/snafflelaw01.NumBack", spec := "numBack", apart := false }
def NumBackSaid : Prop := numBackRow.holds Try.pinned (OpenSpec.ofChange numBackSpec)

/-- ITS FALSE NEIGHBOUR: 'it returns false'. Refute it at one input. -/
def numBackWrong : ChangeSpec := { name := "numBack", fn := fun _ => fun
  | [d1, d2] => { results := [.lit (.bool false)], args := [d1, d2] }
  | _ => none }
def NumBackWrongFalsely : Prop := numBackRow.holds Try.pinned (OpenSpec.ofChange numBackWrong)

/-- 'snafflelaw01.NumOver': WHATEVER THE INPUT: true; the input reads as it did. -/
def numOverSpec : ChangeSpec := { name := "numOver", fn := fun _ => fun
  | [d1, d2] => { results := [.lit (.bool true)], args := [d1, d2] }
  | _ => none }
def numOverRow : OpenClaim := { program := "ytcbnmdkjlffogaa", sum := "ba8b65884ac1a52246947cd484641d3298d8e22aabf8ad6735d631aa849ab61b", func := "snaffle/snafflelaw01.NumOver", spec := "numOver", apart := false }
def NumOverSaid : Prop := numOverRow.holds Try.pinned (OpenSpec.ofChange numOverSpec)

/-- ITS FALSE NEIGHBOUR: 'it returns false'. Refute it at one input. -/
def numOverWrong : ChangeSpec := { name := "numOver", fn := fun _ => fun
  | [d1, d2] => { results := [.lit (.bool false)], args := [d1, d2] }
  | _ => none }
def NumOverWrongFalsely : Prop := numOverRow.holds Try.pinned (OpenSpec.ofChange numOverWrong)

/-- 'snafflelaw01.NumTotal': WHATEVER THE INPUT: true; the input reads as it did. -/
def numTotalSpec : ChangeSpec := { name := "numTotal", fn := fun _ => fun
  | [d1, d2] => { results := [.lit (.bool true)], args := [d1, d2] }
  | _ => none }
def numTotalRow : OpenClaim := { program := "ytcbnmdkjlffogaa", sum := "ba8b65884ac1a52246947cd484641d3298d8e22aabf8ad6735d631aa849ab61b", func := "snaffle/snafflelaw01.NumTotal", spec := "numTotal", apart := false }
def NumTotalSaid : Prop := numTotalRow.holds Try.pinned (OpenSpec.ofChange numTotalSpec)

/-- ITS FALSE NEIGHBOUR: 'it returns false'. Refute it at one input. -/
def numTotalWrong : ChangeSpec := { name := "numTotal", fn := fun _ => fun
  | [d1, d2] => { results := [.lit (.bool false)], args := [d1, d2] }
  | _ => none }
def NumTotalWrongFalsely : Prop := numTotalRow.holds Try.pinned (OpenSpec.ofChange numTotalWrong)

/- THE SECOND FORM. 'bulk': how many values and letters a reading holds, each counted each time it is reached (what is shared counts as often as it is met; a slice's spare places count too). A statement '..UptoSaid' is the law's where the arguments, and the package variables that the reading takes, are together of bulk at most 1048576: NARROWER than '..Said'. Prove '..Said' where nothing that the law and all that it calls make is longer than what came in: it says more and counts as full. Else prove '..UptoSaid'. A law counts once. -/
mutual
def uptoBulk {H : Type} : DataW H → Nat
  | .lit (.string bytes) => bytes.length + 1
  | .lit _ => 1
  | .nil => 1
  | .ptr d => uptoBulk d + 1
  | .slice elems spare => uptoBulkAll elems + uptoBulkAll spare + 1
  | .agg parts => uptoBulkAll parts + 1
  | .iface _ d => uptoBulk d + 1
  | .map entries => uptoBulkEntries entries + 1
  | .held _ => 1
def uptoBulkAll {H : Type} : List (DataW H) → Nat
  | [] => 0
  | d :: r => uptoBulk d + uptoBulkAll r
def uptoBulkEntries {H : Type} : List (Lit × DataW H) → Nat
  | [] => 0
  | x :: r => uptoBulkEntry x + uptoBulkEntries r
def uptoBulkEntry {H : Type} : Lit × DataW H → Nat
  | (.string bytes, d) => bytes.length + uptoBulk d + 1
  | (_, d) => uptoBulk d + 1
 end
def uptoSmall : (H : Type) → List (DataW H) → Bool := fun _ ds => decide (uptoBulkAll ds ≤ 1048576)
def OpenSpec.upto (s : _root_.Go.ChangeSpec) : _root_.Go.OpenSpec := { _root_.Go.OpenSpec.ofChange s with cond := some uptoSmall }

/-- 'snafflelaw01.NumRight', WHERE WHAT IT READS IS OF BULK AT MOST 1048576: true; the input reads as it did. -/
def numRightUptoRow : OpenClaim := { program := "ytcbnmdkjlffogaa", sum := "ba8b65884ac1a52246947cd484641d3298d8e22aabf8ad6735d631aa849ab61b", func := "snaffle/snafflelaw01.NumRight", spec := "numRight", apart := false, narrowed := true }
def NumRightUptoSaid : Prop := numRightUptoRow.holds Try.pinned (OpenSpec.upto numRightSpec)

/-- 'snafflelaw01.NumBack', WHERE WHAT IT READS IS OF BULK AT MOST 1048576: true; the input reads as it did. -/
def numBackUptoRow : OpenClaim := { program := "ytcbnmdkjlffogaa", sum := "ba8b65884ac1a52246947cd484641d3298d8e22aabf8ad6735d631aa849ab61b", func := "snaffle/snafflelaw01.NumBack", spec := "numBack", apart := false, narrowed := true }
def NumBackUptoSaid : Prop := numBackUptoRow.holds Try.pinned (OpenSpec.upto numBackSpec)

/-- 'snafflelaw01.NumOver', WHERE WHAT IT READS IS OF BULK AT MOST 1048576: true; the input reads as it did. -/
def numOverUptoRow : OpenClaim := { program := "ytcbnmdkjlffogaa", sum := "ba8b65884ac1a52246947cd484641d3298d8e22aabf8ad6735d631aa849ab61b", func := "snaffle/snafflelaw01.NumOver", spec := "numOver", apart := false, narrowed := true }
def NumOverUptoSaid : Prop := numOverUptoRow.holds Try.pinned (OpenSpec.upto numOverSpec)

/-- 'snafflelaw01.NumTotal', WHERE WHAT IT READS IS OF BULK AT MOST 1048576: true; the input reads as it did. -/
def numTotalUptoRow : OpenClaim := { program := "ytcbnmdkjlffogaa", sum := "ba8b65884ac1a52246947cd484641d3298d8e22aabf8ad6735d631aa849ab61b", func := "snaffle/snafflelaw01.NumTotal", spec := "numTotal", apart := false, narrowed := true }
def NumTotalUptoSaid : Prop := numTotalUptoRow.holds Try.pinned (OpenSpec.upto numTotalSpec)

end Rows
end Go.Proofs.Ytcbnmdkjlffogaa
